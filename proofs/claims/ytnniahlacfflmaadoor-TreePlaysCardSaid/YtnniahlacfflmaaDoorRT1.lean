/- TreePlays: the document's tree in memory. -/
import Derived.Test.YtnniahlacfflmaaDoorRA
import Derived.Test.YtnniahlacfflmaaDoorRWf
import Derived.Test.YtnniahlacfflmaaDoorRWs
import Derived.Test.YtnniahlacfflmaaDoorRWm
namespace Go.Proofs.YtnniahlacfflmaaDoor
open Go.RowKit Go.Shelf
/-- The document's tree: its files, its stamps, its mounts. -/
def Rt (W : World) (rb : Nat) (E : Nat → Prop) (R : Rf) : Prop :=
  ∃ vl vs vm, (W.cell? ⟨rb, 0, none⟩ = some vl ∧ W.cell? ⟨rb, 1, none⟩ = some vs ∧ W.cell? ⟨rb, 2, none⟩ = some vm) ∧ (∀ j, j < 3 → W.frozen? ⟨rb, j, none⟩ = false) ∧ (Rf1.SV W vl R.l ∧ Rs1.SV W vs R.st ∧ Rm1.SV W vm R.mt) ∧ (nbk vl ≠ some rb ∧ nbk vs ≠ some rb ∧ nbk vm ≠ some rb) ∧ (∀ k, (nbk vl = some k → nbk vs ≠ some k ∧ nbk vm ≠ some k) ∧ (nbk vs = some k → nbk vm ≠ some k)) ∧ ∀ k, E k ↔ (k = rb ∨ nbk vl = some k ∨ nbk vs = some k ∨ nbk vm = some k)
theorem Rt.lt {W : World} {rb : Nat} {E : Nat → Prop} {R : Rf} (h : Rt W rb E R) {k : Nat} (hk : E k) : k < W.heap.size := by
  obtain ⟨vl, vs, vm, ⟨c0, c1, c2⟩, f, ⟨s0, s1, s2⟩, n, d, hE⟩ := h
  rcases (hE k).1 hk with rfl | e | e | e
  · exact cell_lt c0
  · exact s0.lt e
  · exact s1.lt e
  · exact s2.lt e
theorem Rt.rb {W : World} {rb : Nat} {E : Nat → Prop} {R : Rf} (h : Rt W rb E R) : E rb := by
  obtain ⟨vl, vs, vm, _, _, _, _, _, hE⟩ := h
  exact (hE rb).2 (.inl rfl)
theorem Rt.mv {F : Nat → Prop} {W V : World} {rb : Nat} {E : Nat → Prop} {R : Rf} (h : Rt W rb E R) (m : Mv F W V) (hF : ∀ k, E k → ¬ F k) : Rt V rb E R := by
  have nr : ¬ F rb := hF rb h.rb
  obtain ⟨vl, vs, vm, ⟨c0, c1, c2⟩, f, ⟨s0, s1, s2⟩, n, d, hE⟩ := h
  exact ⟨vl, vs, vm, ⟨m.cell (a := ⟨rb, 0, none⟩) nr c0, m.cell (a := ⟨rb, 1, none⟩) nr c1, m.cell (a := ⟨rb, 2, none⟩) nr c2⟩, fun j hj => (m.froz (a := ⟨rb, j, none⟩) nr (show rb < W.heap.size from cell_lt c0)).trans (f j hj), ⟨s0.mv m (fun k hk => hF k ((hE k).2 (.inr (.inl hk)))), s1.mv m (fun k hk => hF k ((hE k).2 (.inr (.inr (.inl hk))))), s2.mv m (fun k hk => hF k ((hE k).2 (.inr (.inr (.inr hk)))))⟩, n, d, hE⟩
theorem Rt.below {W V : World} {rb : Nat} {E : Nat → Prop} {R : Rf} (h : Rt W rb E R) (b : Below W.heap.size W V) : Rt V rb E R := h.mv (F := fun _ => False) (Mv.below b) (fun _ _ f => f)
/-- From one state to another one. -/
def Rto (W : World) (rb : Nat) (E : Nat → Prop) (R : Rf) (V : World) : Prop := ∃ E', Rt V rb E' R ∧ Mv E W V ∧ Gr E W E'
theorem Rt.same {W V : World} {rb : Nat} {E : Nat → Prop} {R : Rf} (h : Rt W rb E R) (b : Below W.heap.size W V) : Rto W rb E R V := ⟨E, h.below b, Mv.below b, Gr.refl _ _⟩
theorem Rto.trans {W W1 V : World} {rb : Nat} {E : Nat → Prop} {R1 R : Rf} (h : Rto W rb E R1 W1) (g : ∀ E1, Rt W1 rb E1 R1 → Rto W1 rb E1 R V) : Rto W rb E R V := by
  obtain ⟨E1, h1, h2, h3⟩ := h
  obtain ⟨E2, g1, g2, g3⟩ := g E1 h1
  exact ⟨E2, g1, h2.trans h3 g2, fun k hk => by
    rcases g3 k hk with z | z
    · exact h3 k z
    · exact .inr (Nat.le_trans h2.size z)⟩
/-- Another row in cell 0. -/
theorem Rt.put0 {W W1 V : World} {rb : Nat} {E : Nat → Prop} {R : Rf} (h : Rt W rb E R) {v0 v : Value} {l : List (ByteArray × Bool)} (hc : W.cell? ⟨rb, 0, none⟩ = some v0) (m : Mv (fun k => nbk v0 = some k) W W1) (sv : Rf1.SV W1 v l) (hv : nbk v = nbk v0 ∨ ∀ k, nbk v = some k → W.heap.size ≤ k) (hV : W1.setCell ⟨rb, 0, none⟩ v = V) : Rto W rb E { R with l := l } V := by
  obtain ⟨vl, vs, vm, ⟨c0, c1, c2⟩, f, ⟨s0, s1, s2⟩, ⟨n0, n1, n2⟩, d, hE⟩ := h
  obtain rfl : vl = v0 := Option.some.inj (c0.symm.trans hc)
  have lr0 := cell_lt c0
  simp only at lr0
  have lr : rb < W1.heap.size := Nat.lt_of_lt_of_le lr0 m.size
  have q0 := m.cell (a := ⟨rb, 0, none⟩) (fun e => n0 e) c0
  have q1 := m.cell (a := ⟨rb, 1, none⟩) (fun e => n0 e) c1
  have q2 := m.cell (a := ⟨rb, 2, none⟩) (fun e => n0 e) c2
  have t1 := s1.mv m (fun k e z => (d k).1 z |>.1 e)
  have t2 := s2.mv m (fun k e z => (d k).1 z |>.2 e)
  have cv := Cv.one W1 rb 0 v
  rw [hV] at cv
  have mV : Mv (fun k => k = rb) W1 V := cv.mv.mono fun k _ s => by obtain ⟨j, s, _⟩ := s; exact s
  have nV : nbk v ≠ some rb := fun e => by
    rcases hv with e1 | hk
    · rw [e1] at e; exact n0 e
    · have := hk rb e; omega
  have nA : ∀ k, nbk vs = some k → nbk v ≠ some k := fun k hk e => by
    rcases hv with e1 | hk'
    · rw [e1] at e; exact (fun k e z => (d k).1 z |>.1 e) k hk e
    · have := hk' k e; have := s1.lt hk; omega
  have nB : ∀ k, nbk vm = some k → nbk v ≠ some k := fun k hk e => by
    rcases hv with e1 | hk'
    · rw [e1] at e; exact (fun k e z => (d k).1 z |>.2 e) k hk e
    · have := hk' k e; have := s2.lt hk; omega
  refine ⟨fun k => k = rb ∨ nbk v = some k ∨ nbk vs = some k ∨ nbk vm = some k, ⟨v, vs, vm, ⟨by rw [← hV]; exact World.cell?_setCell_same _ _ _ q0, cv.cell (fun s => by have := s.2; omega) q1, cv.cell (fun s => by have := s.2; omega) q2⟩, fun i hi => (cv.fr rb i lr).trans ((m.froz (a := ⟨rb, i, none⟩) (fun e => n0 e) lr0).trans (f i hi)), ⟨sv.mv mV (fun k hk e => nV (by have e' : k = rb := e; rw [← e']; exact hk)), t1.mv mV (fun k hk e => n1 (by have e' : k = rb := e; rw [← e']; exact hk)), t2.mv mV (fun k hk e => n2 (by have e' : k = rb := e; rw [← e']; exact hk))⟩, ⟨nV, n1, n2⟩, fun k => ⟨fun e => ⟨fun z => nA k z e, fun z => nB k z e⟩, (d k).2⟩, fun k => Iff.rfl⟩, (m.mono fun k _ e => (hE k).2 (.inr (.inl e))).trans (E' := fun k => k = rb) (fun k e => .inl ((hE k).2 (.inl e))) mV, fun k hk => ?_⟩
  rcases hk with e | e | e | e
  · exact .inl ((hE k).2 (.inl e))
  · rcases hv with e1 | hk'
    · rw [e1] at e; exact .inl ((hE k).2 (.inr (.inl e)))
    · exact .inr (hk' k e)
  · exact .inl ((hE k).2 (.inr (.inr (.inl e))))
  · exact .inl ((hE k).2 (.inr (.inr (.inr e))))
/-- The row in cell 0, turned in its place. -/
theorem Rt.in0 {W W1 : World} {rb : Nat} {E : Nat → Prop} {R : Rf} (h : Rt W rb E R) {v0 : Value} {l : List (ByteArray × Bool)} (hc : W.cell? ⟨rb, 0, none⟩ = some v0) (m : Mv (fun k => nbk v0 = some k) W W1) (sv : Rf1.SV W1 v0 l) : Rto W rb E { R with l := l } W1 := by
  obtain ⟨vl, vs, vm, ⟨c0, c1, c2⟩, f, ⟨s0, s1, s2⟩, ⟨n0, n1, n2⟩, d, hE⟩ := h
  obtain rfl : vl = v0 := Option.some.inj (c0.symm.trans hc)
  have lr0 := cell_lt c0
  have t1 := s1.mv m (fun k e z => (d k).1 z |>.1 e)
  have t2 := s2.mv m (fun k e z => (d k).1 z |>.2 e)
  exact ⟨E, ⟨vl, vs, vm, ⟨m.cell (a := ⟨rb, 0, none⟩) (fun e => n0 e) c0, m.cell (a := ⟨rb, 1, none⟩) (fun e => n0 e) c1, m.cell (a := ⟨rb, 2, none⟩) (fun e => n0 e) c2⟩, fun i hi => (m.froz (a := ⟨rb, i, none⟩) (fun e => n0 e) (show rb < W.heap.size from lr0)).trans (f i hi), ⟨sv, t1, t2⟩, ⟨n0, n1, n2⟩, d, hE⟩, m.mono fun k _ e => (hE k).2 (.inr (.inl e)), Gr.refl _ _⟩
/-- Another row in cell 1. -/
theorem Rt.put1 {W W1 V : World} {rb : Nat} {E : Nat → Prop} {R : Rf} (h : Rt W rb E R) {v0 v : Value} {l : List (ByteArray × Int)} (hc : W.cell? ⟨rb, 1, none⟩ = some v0) (m : Mv (fun k => nbk v0 = some k) W W1) (sv : Rs1.SV W1 v l) (hv : nbk v = nbk v0 ∨ ∀ k, nbk v = some k → W.heap.size ≤ k) (hV : W1.setCell ⟨rb, 1, none⟩ v = V) : Rto W rb E { R with st := l } V := by
  obtain ⟨vl, vs, vm, ⟨c0, c1, c2⟩, f, ⟨s0, s1, s2⟩, ⟨n0, n1, n2⟩, d, hE⟩ := h
  obtain rfl : vs = v0 := Option.some.inj (c1.symm.trans hc)
  have lr0 := cell_lt c0
  simp only at lr0
  have lr : rb < W1.heap.size := Nat.lt_of_lt_of_le lr0 m.size
  have q0 := m.cell (a := ⟨rb, 0, none⟩) (fun e => n1 e) c0
  have q1 := m.cell (a := ⟨rb, 1, none⟩) (fun e => n1 e) c1
  have q2 := m.cell (a := ⟨rb, 2, none⟩) (fun e => n1 e) c2
  have t0 := s0.mv m (fun k e z => ((d k).1 e).1 z)
  have t2 := s2.mv m (fun k e z => (d k).2 z e)
  have cv := Cv.one W1 rb 1 v
  rw [hV] at cv
  have mV : Mv (fun k => k = rb) W1 V := cv.mv.mono fun k _ s => by obtain ⟨j, s, _⟩ := s; exact s
  have nV : nbk v ≠ some rb := fun e => by
    rcases hv with e1 | hk
    · rw [e1] at e; exact n1 e
    · have := hk rb e; omega
  have nA : ∀ k, nbk vl = some k → nbk v ≠ some k := fun k hk e => by
    rcases hv with e1 | hk'
    · rw [e1] at e; exact (fun k e z => ((d k).1 e).1 z) k hk e
    · have := hk' k e; have := s0.lt hk; omega
  have nB : ∀ k, nbk vm = some k → nbk v ≠ some k := fun k hk e => by
    rcases hv with e1 | hk'
    · rw [e1] at e; exact (fun k e z => (d k).2 z e) k hk e
    · have := hk' k e; have := s2.lt hk; omega
  refine ⟨fun k => k = rb ∨ nbk vl = some k ∨ nbk v = some k ∨ nbk vm = some k, ⟨vl, v, vm, ⟨cv.cell (fun s => by have := s.2; omega) q0, by rw [← hV]; exact World.cell?_setCell_same _ _ _ q1, cv.cell (fun s => by have := s.2; omega) q2⟩, fun i hi => (cv.fr rb i lr).trans ((m.froz (a := ⟨rb, i, none⟩) (fun e => n1 e) lr0).trans (f i hi)), ⟨t0.mv mV (fun k hk e => n0 (by have e' : k = rb := e; rw [← e']; exact hk)), sv.mv mV (fun k hk e => nV (by have e' : k = rb := e; rw [← e']; exact hk)), t2.mv mV (fun k hk e => n2 (by have e' : k = rb := e; rw [← e']; exact hk))⟩, ⟨n0, nV, n2⟩, fun k => ⟨fun e => ⟨fun z => nA k e z, ((d k).1 e).2⟩, fun e z => nB k z e⟩, fun k => Iff.rfl⟩, (m.mono fun k _ e => (hE k).2 (.inr (.inr (.inl e)))).trans (E' := fun k => k = rb) (fun k e => .inl ((hE k).2 (.inl e))) mV, fun k hk => ?_⟩
  rcases hk with e | e | e | e
  · exact .inl ((hE k).2 (.inl e))
  · exact .inl ((hE k).2 (.inr (.inl e)))
  · rcases hv with e1 | hk'
    · rw [e1] at e; exact .inl ((hE k).2 (.inr (.inr (.inl e))))
    · exact .inr (hk' k e)
  · exact .inl ((hE k).2 (.inr (.inr (.inr e))))
/-- The row in cell 1, turned in its place. -/
theorem Rt.in1 {W W1 : World} {rb : Nat} {E : Nat → Prop} {R : Rf} (h : Rt W rb E R) {v0 : Value} {l : List (ByteArray × Int)} (hc : W.cell? ⟨rb, 1, none⟩ = some v0) (m : Mv (fun k => nbk v0 = some k) W W1) (sv : Rs1.SV W1 v0 l) : Rto W rb E { R with st := l } W1 := by
  obtain ⟨vl, vs, vm, ⟨c0, c1, c2⟩, f, ⟨s0, s1, s2⟩, ⟨n0, n1, n2⟩, d, hE⟩ := h
  obtain rfl : vs = v0 := Option.some.inj (c1.symm.trans hc)
  have lr0 := cell_lt c0
  have t0 := s0.mv m (fun k e z => ((d k).1 e).1 z)
  have t2 := s2.mv m (fun k e z => (d k).2 z e)
  exact ⟨E, ⟨vl, vs, vm, ⟨m.cell (a := ⟨rb, 0, none⟩) (fun e => n1 e) c0, m.cell (a := ⟨rb, 1, none⟩) (fun e => n1 e) c1, m.cell (a := ⟨rb, 2, none⟩) (fun e => n1 e) c2⟩, fun i hi => (m.froz (a := ⟨rb, i, none⟩) (fun e => n1 e) (show rb < W.heap.size from lr0)).trans (f i hi), ⟨t0, sv, t2⟩, ⟨n0, n1, n2⟩, d, hE⟩, m.mono fun k _ e => (hE k).2 (.inr (.inr (.inl e))), Gr.refl _ _⟩
/-- Another row in cell 2. -/
theorem Rt.put2 {W W1 V : World} {rb : Nat} {E : Nat → Prop} {R : Rf} (h : Rt W rb E R) {v0 v : Value} {l : List (ByteArray × ByteArray)} (hc : W.cell? ⟨rb, 2, none⟩ = some v0) (m : Mv (fun k => nbk v0 = some k) W W1) (sv : Rm1.SV W1 v l) (hv : nbk v = nbk v0 ∨ ∀ k, nbk v = some k → W.heap.size ≤ k) (hV : W1.setCell ⟨rb, 2, none⟩ v = V) : Rto W rb E { R with mt := l } V := by
  obtain ⟨vl, vs, vm, ⟨c0, c1, c2⟩, f, ⟨s0, s1, s2⟩, ⟨n0, n1, n2⟩, d, hE⟩ := h
  obtain rfl : vm = v0 := Option.some.inj (c2.symm.trans hc)
  have lr0 := cell_lt c0
  simp only at lr0
  have lr : rb < W1.heap.size := Nat.lt_of_lt_of_le lr0 m.size
  have q0 := m.cell (a := ⟨rb, 0, none⟩) (fun e => n2 e) c0
  have q1 := m.cell (a := ⟨rb, 1, none⟩) (fun e => n2 e) c1
  have q2 := m.cell (a := ⟨rb, 2, none⟩) (fun e => n2 e) c2
  have t0 := s0.mv m (fun k e z => ((d k).1 e).2 z)
  have t1 := s1.mv m (fun k e z => (d k).2 e z)
  have cv := Cv.one W1 rb 2 v
  rw [hV] at cv
  have mV : Mv (fun k => k = rb) W1 V := cv.mv.mono fun k _ s => by obtain ⟨j, s, _⟩ := s; exact s
  have nV : nbk v ≠ some rb := fun e => by
    rcases hv with e1 | hk
    · rw [e1] at e; exact n2 e
    · have := hk rb e; omega
  have nA : ∀ k, nbk vl = some k → nbk v ≠ some k := fun k hk e => by
    rcases hv with e1 | hk'
    · rw [e1] at e; exact (fun k e z => ((d k).1 e).2 z) k hk e
    · have := hk' k e; have := s0.lt hk; omega
  have nB : ∀ k, nbk vs = some k → nbk v ≠ some k := fun k hk e => by
    rcases hv with e1 | hk'
    · rw [e1] at e; exact (fun k e z => (d k).2 e z) k hk e
    · have := hk' k e; have := s1.lt hk; omega
  refine ⟨fun k => k = rb ∨ nbk vl = some k ∨ nbk vs = some k ∨ nbk v = some k, ⟨vl, vs, v, ⟨cv.cell (fun s => by have := s.2; omega) q0, cv.cell (fun s => by have := s.2; omega) q1, by rw [← hV]; exact World.cell?_setCell_same _ _ _ q2⟩, fun i hi => (cv.fr rb i lr).trans ((m.froz (a := ⟨rb, i, none⟩) (fun e => n2 e) lr0).trans (f i hi)), ⟨t0.mv mV (fun k hk e => n0 (by have e' : k = rb := e; rw [← e']; exact hk)), t1.mv mV (fun k hk e => n1 (by have e' : k = rb := e; rw [← e']; exact hk)), sv.mv mV (fun k hk e => nV (by have e' : k = rb := e; rw [← e']; exact hk))⟩, ⟨n0, n1, nV⟩, fun k => ⟨fun e => ⟨((d k).1 e).1, fun z => nA k e z⟩, fun e z => nB k e z⟩, fun k => Iff.rfl⟩, (m.mono fun k _ e => (hE k).2 (.inr (.inr (.inr e)))).trans (E' := fun k => k = rb) (fun k e => .inl ((hE k).2 (.inl e))) mV, fun k hk => ?_⟩
  rcases hk with e | e | e | e
  · exact .inl ((hE k).2 (.inl e))
  · exact .inl ((hE k).2 (.inr (.inl e)))
  · exact .inl ((hE k).2 (.inr (.inr (.inl e))))
  · rcases hv with e1 | hk'
    · rw [e1] at e; exact .inl ((hE k).2 (.inr (.inr (.inr e))))
    · exact .inr (hk' k e)
/-- The row in cell 2, turned in its place. -/
theorem Rt.in2 {W W1 : World} {rb : Nat} {E : Nat → Prop} {R : Rf} (h : Rt W rb E R) {v0 : Value} {l : List (ByteArray × ByteArray)} (hc : W.cell? ⟨rb, 2, none⟩ = some v0) (m : Mv (fun k => nbk v0 = some k) W W1) (sv : Rm1.SV W1 v0 l) : Rto W rb E { R with mt := l } W1 := by
  obtain ⟨vl, vs, vm, ⟨c0, c1, c2⟩, f, ⟨s0, s1, s2⟩, ⟨n0, n1, n2⟩, d, hE⟩ := h
  obtain rfl : vm = v0 := Option.some.inj (c2.symm.trans hc)
  have lr0 := cell_lt c0
  have t0 := s0.mv m (fun k e z => ((d k).1 e).2 z)
  have t1 := s1.mv m (fun k e z => (d k).2 e z)
  exact ⟨E, ⟨vl, vs, vm, ⟨m.cell (a := ⟨rb, 0, none⟩) (fun e => n2 e) c0, m.cell (a := ⟨rb, 1, none⟩) (fun e => n2 e) c1, m.cell (a := ⟨rb, 2, none⟩) (fun e => n2 e) c2⟩, fun i hi => (m.froz (a := ⟨rb, i, none⟩) (fun e => n2 e) (show rb < W.heap.size from lr0)).trans (f i hi), ⟨t0, t1, sv⟩, ⟨n0, n1, n2⟩, d, hE⟩, m.mono fun k _ e => (hE k).2 (.inr (.inr (.inr e))), Gr.refl _ _⟩
theorem new_of {v v0 : Value} {n : Nat} (h : nbk v = nbk v0 ∨ ∃ k, nbk v = some k ∧ n ≤ k) : nbk v = nbk v0 ∨ ∀ k, nbk v = some k → n ≤ k := h.imp id fun ⟨k, e, hk⟩ j ej => by rw [ej] at e; injection e with e; omega
end Go.Proofs.YtnniahlacfflmaaDoor
