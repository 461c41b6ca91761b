import Derived.Test.YteimalemecgomaaGreatBd
import Derived.Test.YteimalemecgomaaGreatBc
/- QueuePlays: where the walk stands. -/
namespace Go.Proofs.YteimalemecgomaaGreat.Mi
open Go.RowKit Go.Shelf Go.Lib
theorem slice_lo {w : World} {v : Value} {L : List (Int × Int)} (h : SV w v L) {k : Nat} (hk : k ≤ L.length) :
    ∃ dv, (∀ W, (Instr.slice 29 v (some (.int .i64 k)) none none).run Tryz.prog W = .ok dv W) ∧ SV w dv (L.drop k) ∧ ∀ b, Qt.nbk dv = some b → Qt.nbk v = some b := by
  obtain ⟨i0, hi, hz0, hz1, hz2⟩ := infoT
  rcases h with ⟨rfl, rfl⟩ | ⟨g, o, c, rfl, h⟩
  · have : k = 0 := by simpa using hk
    subst this
    refine ⟨.slice none 0 0, fun W => ?_, .inl ⟨rfl, rfl⟩, fun _ h => h⟩
    simp [Instr.slice, Instr.sliceBounds, Instr.sliceBound, run_underlying Tryz.underlying29, sizeOf, typeInfo, hi, asIntOf]
  · have hle := h.le
    refine ⟨slv g (if c = k then o else o + k * 2) (L.length - k) (c - k), fun W => ?_, .inr ⟨_, _, _, by rw [List.length_drop], h.drop hk⟩, fun _ h => h⟩
    by_cases e : c = k
    · simp [Instr.slice, Instr.sliceBounds, Instr.sliceBound, run_underlying Tryz.underlying29, sizeOf, typeInfo, hi, asIntOf, hz1, e, Addr.add_lit]; intro z; omega
    · simp [Instr.slice, Instr.sliceBounds, Instr.sliceBound, run_underlying Tryz.underlying29, sizeOf, typeInfo, hi, asIntOf, hz1, e, Addr.add_lit]; intro z; omega
theorem slice_hi {w : World} {v : Value} {L : List (Int × Int)} (h : SV w v L) {k : Nat} (hk : k ≤ L.length) :
    ∃ dv, (∀ W, (Instr.slice 29 v none (some (.int .i64 k)) none).run Tryz.prog W = .ok dv W) ∧ SV w dv (L.take k) := by
  obtain ⟨i0, hi, hz0, hz1, hz2⟩ := infoT
  rcases h with ⟨rfl, rfl⟩ | ⟨g, o, c, rfl, h⟩
  · have : k = 0 := by simpa using hk
    subst this
    refine ⟨.slice none 0 0, fun W => ?_, .inl ⟨rfl, rfl⟩⟩
    simp [Instr.slice, Instr.sliceBounds, Instr.sliceBound, run_underlying Tryz.underlying29, sizeOf, typeInfo, hi, asIntOf]
  · have hle := h.le
    refine ⟨slv g o k c, fun W => ?_, .inr ⟨_, _, _, by rw [List.length_take, Nat.min_eq_left hk], h.take k⟩⟩
    by_cases e : c = 0
    · have : k = 0 := by omega
      subst this
      simp [Instr.slice, Instr.sliceBounds, Instr.sliceBound, run_underlying Tryz.underlying29, sizeOf, typeInfo, hi, asIntOf, e]
    · simp [Instr.slice, Instr.sliceBounds, Instr.sliceBound, run_underlying Tryz.underlying29, sizeOf, typeInfo, hi, asIntOf, e, Addr.add_lit]; intro z; omega
end Go.Proofs.YteimalemecgomaaGreat.Mi
namespace Go.Proofs.YteimalemecgomaaGreat
open Go.RowKit Go.Shelf Go.Lib
/-- What the law keeps: the boxes of stop and of m, m's row. -/
def Pk (sb mb : Nat) (v : Value) (k : Nat) : Prop := k = sb ∨ k = mb ∨ Qt.nbk v = some k
structure Ps (w : World) (Pf : Nat → Prop) (sb mb q : Nat) (st : Int) (v : Value) (M L : List (Int × Int)) (n : Nat) (W : World) : Prop where
  q : Qh w Pf W q L n
  pk : ∀ k, Pk sb mb v k → Pf k
  cm : Cl mb v W
  sv : Mi.SV W v M
  cs : W.cell? ⟨sb, 0, none⟩ = some (.int .i64 st)
  n1 : mb ≠ sb
  lo : w.heap.size ≤ mb
  nv : ∀ k, Qt.nbk v = some k → k ≠ mb ∧ k ≠ sb
theorem Ps.keep {w : World} {Pf Pf' F : Nat → Prop} {sb mb q : Nat} {st : Int} {v : Value} {M L L' : List (Int × Int)} {n n' : Nat} {W V : World} (h : Ps w Pf sb mb q st v M L n W) (m : Mv F W V) (hF : ∀ k, Pk sb mb v k → k < W.heap.size → ¬ F k) (hq : Qh w Pf' V q L' n') (hk : ∀ k, Pk sb mb v k → Pf' k) : Ps w Pf' sb mb q st v M L' n' V :=
  ⟨hq, hk, h.cm.mv m (hF mb (.inr (.inl rfl)) h.cm.lt), h.sv.mv m (fun k hk => hF k (.inr (.inr hk)) (h.sv.lt hk)), m.cell (a := ⟨sb, 0, none⟩) (hF sb (.inl rfl) (cell_lt h.cs)) h.cs, h.n1, h.lo, h.nv⟩
theorem Ps.next {w : World} {Pf : Nat → Prop} {sb mb q : Nat} {st : Int} {v : Value} {M L : List (Int × Int)} {n : Nat} {W V : World} (h : Ps w Pf sb mb q st v M L n W) {F Pf' : Nat → Prop} (m : Mv F W V) (hF : ∀ k, F k → (Pf k ∧ w.heap.size ≤ k ∧ ¬ Pk sb mb v k) ∨ W.heap.size ≤ k) (hP : ∀ k, Pf' k → Pf k ∨ (W.heap.size ≤ k ∧ k < V.heap.size)) (hk : ∀ k, Pk sb mb v k → Pf' k) : Ps w Pf' sb mb q st v M L n V :=
  h.keep m (fun k p l f => (hF k f).elim (fun z => z.2.2 p) (fun z => by omega)) (h.q.more m (fun k f => (hF k f).imp (fun z => ⟨z.1, z.2.1⟩) id) hP) hk
theorem Ps.below {w : World} {Pf : Nat → Prop} {sb mb q : Nat} {st : Int} {v : Value} {M L : List (Int × Int)} {n : Nat} {W V : World} (h : Ps w Pf sb mb q st v M L n W) (b : Below W.heap.size W V) : Ps w Pf sb mb q st v M L n V :=
  h.next (F := fun _ => False) (Mv.below b) (fun _ f => f.elim) (fun _ p => .inl p) h.pk
theorem Ps.call {w : World} {Pf : Nat → Prop} {sb mb q : Nat} {st : Int} {v : Value} {M L L' : List (Int × Int)} {n n' : Nat} {W : World} (h : Ps w Pf sb mb q st v M L n W) {f : Nat} {args : Array Value} {R : Ending → Prop} (hc : ∀ E B, Qt.Qu LN (fun x => x.1) W q E B L n → Calls Tryz.prog f args W fun e V => R e ∧ Qt.Qg LN (fun x => x.1) W q E B L' n' V) :
    Calls Tryz.prog f args W fun e V => R e ∧ Ps w Pf sb mb q st v M L' n' V ∧ Mv (fun k => ¬ Pf k) W V := by
  refine (h.q.go hc).mono ?_
  rintro e V ⟨hR, hq, m⟩
  exact ⟨hR, h.keep m (fun k p _ f => f (h.pk k p)) hq h.pk, m⟩
theorem Ps.setm {w : World} {Pf : Nat → Prop} {sb mb q : Nat} {st : Int} {v : Value} {M L : List (Int × Int)} {n : Nat} {W V : World} (h : Ps w Pf sb mb q st v M L n W) {v' : Value} {M' : List (Int × Int)} (hv : Mi.SV W v' M') (hn : ∀ k, Qt.nbk v' = some k → Pf k ∧ k ≠ mb ∧ k ≠ sb) (hV : W.setCell ⟨mb, 0, none⟩ v' = V) : Ps w (Pk sb mb v') sb mb q st v' M' L n V := by
  have m : Mv (fun k => k = mb) W V := by rw [← hV]; exact Mv.set1 (E := fun k => k = mb) rfl _
  refine ⟨h.q.more m (fun k e => .inl ⟨h.pk k (.inr (.inl e)), by have e' : k = mb := e; rw [e']; exact h.lo⟩) (fun k hk => .inl ?_), fun _ p => p, by rw [← hV]; exact h.cm.set _, hv.mv m (fun k hk e => (hn k hk).2.1 e), m.cell (a := ⟨sb, 0, none⟩) (fun e => h.n1 e.symm) h.cs, h.n1, h.lo, fun k hk => (hn k hk).2⟩
  rcases hk with e | e | e
  · exact h.pk k (.inl e)
  · exact h.pk k (.inr (.inl e))
  · exact (hn k e).1
theorem Ps.len {w : World} {Pf : Nat → Prop} {sb mb q : Nat} {st : Int} {v : Value} {M L : List (Int × Int)} {n : Nat} {W : World} (h : Ps w Pf sb mb q st v M L n W) : L.length ≤ n := by
  obtain ⟨E, B, ⟨v, xs, F, L', a1, a2, a3, a4, _⟩, _⟩ := h.q
  exact a4
/-- Between two rounds. -/
def Pm (w : World) (sb mb q : Nat) (st : Int) (j : Nat) (W : World) : Prop := ∃ v L n, n ≤ j ∧ Ps w (Pk sb mb v) sb mb q st v L L n W
end Go.Proofs.YteimalemecgomaaGreat
/- QueuePlays: what is left behind Drop. -/
namespace Go.Proofs.YteimalemecgomaaGreat
open Go.RowKit Go.Shelf Go.Lib
def keepP (r : Int) (x : Int × Int) : Bool := !(x.2.tmod 3 == r)
/-- While what is left is picked: the first k are through. -/
def Lc (w : World) (sb mb q : Nat) (st : Int) (v : Value) (L L' : List (Int × Int)) (n rb : Nat) (r : Int) (k : Nat) (lv : Value) (W : World) : Prop :=
  ∃ Pf, Ps w Pf sb mb q st v L L' n W ∧ W.cell? ⟨rb, 0, none⟩ = some (.int .i64 r) ∧ Pf rb ∧ Mi.SV W lv ((L.take k).filter (keepP r)) ∧ ∀ b, Qt.nbk lv = some b → Pf b ∧ w.heap.size ≤ b ∧ ¬ Pk sb mb v b ∧ b ≠ rb
theorem Lc.below {w : World} {sb mb q : Nat} {st : Int} {v : Value} {L L' : List (Int × Int)} {n rb : Nat} {r : Int} {k : Nat} {lv : Value} {W V : World} (h : Lc w sb mb q st v L L' n rb r k lv W) (b : Below W.heap.size W V) : Lc w sb mb q st v L L' n rb r k lv V := by
  obtain ⟨Pf, h1, h2, h3, h4, h5⟩ := h
  exact ⟨Pf, h1.below b, bcell b (cell_lt h2) h2, h3, h4.mv (F := fun _ => False) (Mv.below b) (fun _ _ h => h), h5⟩
theorem Lc.skip {w : World} {sb mb q : Nat} {st : Int} {v : Value} {L L' : List (Int × Int)} {n rb : Nat} {r : Int} {k : Nat} {lv : Value} {W : World} (h : Lc w sb mb q st v L L' n rb r k lv W) {y : Int × Int} (hy : L[k]? = some y) (hp : keepP r y = false) : Lc w sb mb q st v L L' n rb r (k + 1) lv W := by
  obtain ⟨Pf, h1, h2, h3, h4, h5⟩ := h
  have e : (L.take (k + 1)).filter (keepP r) = (L.take k).filter (keepP r) := by rw [List.take_add_one, hy]; simp [hp]
  exact ⟨Pf, h1, h2, h3, by rw [e]; exact h4, h5⟩
theorem Lc.app {w : World} {sb mb q : Nat} {st : Int} {v : Value} {L L' : List (Int × Int)} {n rb : Nat} {r : Int} {k : Nat} {lv : Value} {W : World} (h : Lc w sb mb q st v L L' n rb r k lv W) {y : Int × Int} (hy : L[k]? = some y) (hp : keepP r y = true) (hl : L.length ≤ 1000) :
    ∃ A, W.alloc (.cells #[.int .i64 y.1, .int .i64 y.2] 27) = A ∧ ∃ v' W', (Builtin.append_ #[29, 29] 29 #[lv, Mi.slv W.heap.size 0 1 1]).run Tryz.prog A = .ok v' W' ∧ Lc w sb mb q st v L L' n rb r (k + 1) v' W' := by
  obtain ⟨Pf, h1, h2, h3, h4, h5⟩ := h
  obtain ⟨A, hA⟩ : ∃ A, W.alloc (.cells #[.int .i64 y.1, .int .i64 y.2] 27) = A := ⟨_, rfl⟩
  have bA : Below W.heap.size W A := by rw [← hA]; exact (Below.refl _ _).alloc (Nat.le_refl _) _
  have sA : A.heap.size = W.heap.size + 1 := by rw [← hA]; simp
  have hx : Mi.RA A W.heap.size 0 [y] := fun j u hj => by
    match j, hj with
    | 0, hj => simp [Mi.flat] at hj; subst hj; rw [← hA]; exact cell_at rfl rfl
    | 1, hj => simp [Mi.flat] at hj; subst hj; rw [← hA]; exact cell_at rfl rfl
    | j + 2, hj => simp [Mi.flat] at hj
  have h4A := h4.mv (F := fun _ => False) (Mv.below bA) (fun _ _ h => h)
  obtain ⟨v', W', hrun, sv', mv', at'⟩ := h4A.append hx (Nat.le_trans (List.length_filter_le _ _) (by rw [List.length_take]; omega)) 1
  refine ⟨A, hA, v', W', hrun, fun b => Pf b ∨ Qt.nbk v' = some b, ?_, ?_, .inl h3, ?_, ?_⟩
  · have h1A := h1.below bA
    refine h1A.next (F := fun k => Qt.nbk lv = some k) mv' (fun b hb => .inl ⟨(h5 b hb).1, (h5 b hb).2.1, (h5 b hb).2.2.1⟩) (fun b hb => ?_) (fun b p => .inl (h1.pk b p))
    rcases hb with e | e
    · exact .inl e
    · rcases at' with z | ⟨k', z, hk'⟩
      · exact .inl (h5 b (z ▸ e)).1
      · exact .inr ⟨by rw [e] at z; injection z with z; omega, sv'.lt e⟩
  · have h2A := bcell bA (cell_lt h2) h2
    exact mv'.cell (a := ⟨rb, 0, none⟩) (fun e => (h5 rb e).2.2.2 rfl) h2A
  · have e : (L.take (k + 1)).filter (keepP r) = (L.take k).filter (keepP r) ++ [y] := by rw [List.take_add_one, hy]; simp [hp]
    rw [e]
    exact sv'
  · intro b hb
    rcases at' with z | ⟨k', z, hk'⟩
    · have := h5 b (z ▸ hb)
      exact ⟨.inl this.1, this.2⟩
    · have e : b = k' := by rw [hb] at z; injection z
      subst e
      have bw : w.heap.size ≤ W.heap.size := by obtain ⟨_, _, _, _, _, bw⟩ := h1.q; exact bw.size
      have hrb := cell_lt h2
      refine ⟨.inr hb, by omega, fun p => ?_, fun e => by simp at hrb; omega⟩
      rcases p with p | p | p
      · have := cell_lt h1.cs; simp at this; omega
      · have := h1.cm.lt; omega
      · have := h1.sv.lt p; omega
theorem Lc.fin {w : World} {sb mb q : Nat} {st : Int} {v : Value} {L : List (Int × Int)} {n rb : Nat} {r : Int} {lv : Value} {W : World} {j : Nat} (h : Lc w sb mb q st v L (L.filter (keepP r)) n rb r L.length lv W) (hn : n ≤ j) : Pm w sb mb q st j (W.setCell ⟨mb, 0, none⟩ lv) := by
  obtain ⟨Pf, h1, h2, h3, h4, h5⟩ := h
  rw [List.take_length] at h4
  exact ⟨lv, _, n, hn, h1.setm h4 (fun k hk => ⟨(h5 k hk).1, fun e => (h5 k hk).2.2.1 (.inr (.inl e)), fun e => (h5 k hk).2.2.1 (.inl e)⟩) rfl⟩
end Go.Proofs.YteimalemecgomaaGreat
/- QueuePlays: a new one is laid into the model. -/
namespace Go.Proofs.YteimalemecgomaaGreat
open Go.RowKit Go.Shelf Go.Lib
/-- m's box and the new one's. -/
def Sx (mb xb : Nat) (v : Value) (d t : Int) (W : World) : Prop := W.cell? ⟨mb, 0, none⟩ = some v ∧ W.cell? ⟨xb, 0, none⟩ = some (.int .i64 d) ∧ W.cell? ⟨xb, 1, none⟩ = some (.int .i64 t)
theorem Sx.below {mb xb : Nat} {v : Value} {d t : Int} {W V : World} (h : Sx mb xb v d t W) (b : Below W.heap.size W V) : Sx mb xb v d t V := ⟨bcell b (cell_lt h.1) h.1, bcell b (cell_lt h.2.1) h.2.1, bcell b (cell_lt h.2.2) h.2.2⟩
theorem Ps.lay {w : World} {Pf : Nat → Prop} {sb mb q xb : Nat} {st d t : Int} {v : Value} {L L' : List (Int × Int)} {n k j : Nat} {W : World} (h : Ps w Pf sb mb q st v L L' n W) (hs : Sx mb xb v d t W) (hk : k ≤ L.length) (hl : L.length ≤ 1000) (hL : L' = L.take k ++ (d, t) :: L.drop k) (hn : n ≤ j) :
    ∃ pt nt ct, (∀ W, (Instr.slice 29 v none (some (.int .i64 k)) none).run Tryz.prog W = .ok (.slice pt nt ct) W) ∧
    ∃ p1 n1 c1 W1, (Builtin.append_ #[29, 29] 29 #[.slice none 0 0, .slice pt nt ct]).run Tryz.prog W = .ok (.slice p1 n1 c1) W1 ∧ Sx mb xb v d t W1.drew ∧
    ∃ A, W1.drew.alloc (.cells #[.int .i64 d, .int .i64 t] 27) = A ∧ Sx mb xb v d t A ∧
    ∃ p2 n2 c2 W2, (Builtin.append_ #[29, 29] 29 #[.slice p1 n1 c1, .slice (some ⟨W1.heap.size, 0, none⟩) 1 1]).run Tryz.prog A = .ok (.slice p2 n2 c2) W2 ∧ Sx mb xb v d t W2 ∧
    ∃ pd nd cd, (∀ W, (Instr.slice 29 v (some (.int .i64 k)) none none).run Tryz.prog W = .ok (.slice pd nd cd) W) ∧
    ∃ p3 n3 c3 W3, (Builtin.append_ #[29, 29] 29 #[.slice p2 n2 c2, .slice pd nd cd]).run Tryz.prog W2 = .ok (.slice p3 n3 c3) W3 ∧ Sx mb xb v d t W3 ∧ W3.frozen? ⟨mb, 0, none⟩ = false ∧ Pm w sb mb q st j (W3.setCell ⟨mb, 0, none⟩ (.slice p3 n3 c3)) := by
  obtain ⟨tv, htv, svt⟩ := Mi.slice_hi h.sv hk
  obtain ⟨pt, ct, rfl⟩ := svt.shape
  refine ⟨pt, _, ct, htv, ?_⟩
  have lt1 : (L.take k).length ≤ 1000 := by rw [List.length_take]; omega
  have lt2 : (L.drop k).length ≤ 1000 := by rw [List.length_drop]; omega
  obtain ⟨v1, W1, hr1, sv1, mv1, at1⟩ := Mi.SV.cat (v := .slice none 0 0) (l := []) (.inl ⟨rfl, rfl⟩) svt (by simp) (by omega)
  rw [List.nil_append] at sv1
  obtain ⟨p1, c1, rfl⟩ := sv1.shape
  have nb1 : ∀ b, Qt.nbk (.slice p1 (L.take k).length c1) = some b → W.heap.size ≤ b := fun b e => by
    rcases at1 with z | ⟨k', z, hk'⟩
    · rw [e] at z; cases z
    · rw [e] at z; injection z with z; omega
  have b1 : Below W.heap.size W W1 := mv1.toBelow (Nat.le_refl _) (fun b _ e => by cases e)
  have b1d : Below W.heap.size W W1.drew := b1.trans ⟨rfl, rfl, rfl, Nat.le_refl _, fun _ _ => rfl⟩
  obtain ⟨A, hA⟩ : ∃ A, W1.drew.alloc (.cells #[.int .i64 d, .int .i64 t] 27) = A := ⟨_, rfl⟩
  have bA1 : Below W1.drew.heap.size W1.drew A := by rw [← hA]; exact (Below.refl _ _).alloc (Nat.le_refl _) _
  have bA : Below W.heap.size W A := b1d.trans (bA1.mono b1.size)
  have hx : Mi.RA A W1.heap.size 0 [(d, t)] := fun j u hj => by
    match j, hj with
    | 0, hj => simp [Mi.flat] at hj; subst hj; rw [← hA]; exact cell_at rfl rfl
    | 1, hj => simp [Mi.flat] at hj; subst hj; rw [← hA]; exact cell_at rfl rfl
    | j + 2, hj => simp [Mi.flat] at hj
  have sv1A : Mi.SV A (.slice p1 (L.take k).length c1) (L.take k) := (sv1.mv (F := fun _ => False) (V := W1.drew) (Mv.drew _ _) (fun _ _ h => h)).mv (F := fun _ => False) (Mv.below bA1) (fun _ _ h => h)
  obtain ⟨v2, W2, hr2, sv2, mv2, at2⟩ := sv1A.append hx (by omega) 1
  obtain ⟨p2, c2, rfl⟩ := sv2.shape
  have b2 : Below W.heap.size W W2 := bA.trans (mv2.toBelow bA.size (fun b hb e => by have := nb1 b e; omega))
  have nb2 : ∀ b, Qt.nbk (.slice p2 (L.take k ++ [(d, t)]).length c2) = some b → W.heap.size ≤ b := fun b e => by
    rcases at2 with z | ⟨k', z, hk'⟩
    · exact nb1 b (z ▸ e)
    · rw [e] at z; injection z with z; have := bA.size; omega
  obtain ⟨dv, hdv, svd, nbd⟩ := Mi.slice_lo h.sv hk
  obtain ⟨pd, cd, rfl⟩ := svd.shape
  have svd2 := svd.mv (F := fun _ => False) (Mv.below b2) (fun _ _ h => h)
  have l2 : (L.take k ++ [(d, t)]).length ≤ 1001 := by rw [List.length_append]; simp; omega
  obtain ⟨v3, W3, hr3, sv3, mv3, at3⟩ := Mi.SV.cat sv2 svd2 (by omega) (by omega)
  obtain ⟨p3, c3, rfl⟩ := sv3.shape
  have b3 : Below W.heap.size W W3 := b2.trans (mv3.toBelow b2.size (fun b hb e => by have := nb2 b e; omega))
  have nb3 : ∀ b, Qt.nbk (.slice p3 (L.take k ++ [(d, t)] ++ L.drop k).length c3) = some b → W.heap.size ≤ b := fun b e => by
    rcases at3 with z | ⟨k', z, hk'⟩
    · exact nb2 b (z ▸ e)
    · rw [e] at z; injection z with z; have := b2.size; omega
  have hP3 : Ps w (fun b => Pf b ∨ Qt.nbk (.slice p3 (L.take k ++ [(d, t)] ++ L.drop k).length c3) = some b) sb mb q st v L L' n W3 := h.next (F := fun _ => False) (Mv.below b3) (fun _ f => f.elim) (fun b hb => hb.imp id (fun e => ⟨nb3 b e, sv3.lt e⟩)) (fun b p => .inl (h.pk b p))
  have eL : L.take k ++ [(d, t)] ++ L.drop k = L' := by rw [hL]; simp
  have hm := h.cm.lt
  have hsb := cell_lt h.cs
  simp at hsb
  have hfin := hP3.setm sv3 (fun b hb => ⟨.inr hb, by have := nb3 b hb; omega, by have := nb3 b hb; omega⟩) rfl
  have hfin2 : Pm w sb mb q st j (W3.setCell ⟨mb, 0, none⟩ (.slice p3 (L.take k ++ [(d, t)] ++ L.drop k).length c3)) := ⟨_, L', n, hn, by rw [eL] at hfin ⊢; exact hfin⟩
  exact ⟨p1, _, c1, W1, hr1, hs.below b1d, A, hA, hs.below bA, p2, _, c2, W2, hr2, hs.below b2, pd, _, cd, hdv, p3, _, c3, W3, hr3, hs.below b3, hP3.cm.f, hfin2⟩
end Go.Proofs.YteimalemecgomaaGreat
/- QueuePlays: its taker. -/
namespace Go.Proofs.YteimalemecgomaaGreat
open Go.RowKit Go.Shelf Go.Lib
attribute [local go_sem] Oper.semAt_some
/-- So far all is as the model has it. -/
def Jp (B : Nat) (L : List (Int × Int)) (okb atb mb sb : Nat) (v : Value) (st : Int) (rest : List (Int × Int)) (D : Nat → Prop) (W : World) : Prop :=
  ∃ done, done ++ rest = L ∧ (∀ k, D k ↔ (k = okb ∨ k = atb)) ∧ Cl okb (.bool true) W ∧ Cl atb (.int .i64 done.length) W ∧ (mb < B ∧ W.cell? ⟨mb, 0, none⟩ = some v) ∧ (Mi.SV W v L ∧ ∀ k, Qt.nbk v = some k → k < B ∧ k ≠ okb ∧ k ≠ atb) ∧ (sb < B ∧ W.cell? ⟨sb, 0, none⟩ = some (.int .i64 st)) ∧ (∀ i : Nat, 1 ≤ i → i ≤ done.length → (i : Int) ≠ st)
theorem Jp.ter {B : Nat} {L : List (Int × Int)} {okb atb mb sb : Nat} {v : Value} {st : Int} : Ter B (Jp B L okb atb mb sb v st) :=
  ⟨fun s E W V h m => by
    obtain ⟨done, h1, h2, h3, h4, h5, h6, h7, h8⟩ := h
    exact ⟨done, h1, h2, h3.mv m (fun f => f.1 ((h2 _).2 (.inl rfl))), h4.mv m (fun f => f.1 ((h2 _).2 (.inr rfl))), ⟨h5.1, m.cell (a := ⟨mb, 0, none⟩) (fun f => by have := f.2; have := h5.1; simp at *; omega) h5.2⟩, ⟨h6.1.mv m (fun k hk f => by have := f.2; have := (h6.2 k hk).1; omega), h6.2⟩, ⟨h7.1, m.cell (a := ⟨sb, 0, none⟩) (fun f => by have := f.2; have := h7.1; simp at *; omega) h7.2⟩, h8⟩, fun s E W h k hk => by
    obtain ⟨done, h1, h2, h3, h4, _⟩ := h
    rcases (h2 k).1 hk with rfl | rfl
    · exact h3.lt
    · exact h4.lt⟩
def JpX (okb atb : Nat) (st : Int) (_ : Nat → Prop) (W : World) : Prop := ∃ a : Nat, Cl okb (.bool true) W ∧ Cl atb (.int .i64 a) W ∧ (a : Int) = st
set_option maxRecDepth 100000 in
set_option maxHeartbeats 4000000 in
theorem takp {B : Nat} {L : List (Int × Int)} {okb atb mb sb : Nat} {v : Value} {st : Int} (hL : L.length ≤ 1000) (d1 : okb ≠ atb) (d2 : mb ≠ okb ∧ mb ≠ atb) (d3 : sb ≠ okb ∧ sb ≠ atb) :
    Qt.Tak 14 #[.pointer (some ⟨okb, 0, none⟩), .pointer (some ⟨atb, 0, none⟩), .pointer (some ⟨mb, 0, none⟩), .pointer (some ⟨sb, 0, none⟩)] (Jp B L okb atb mb sb v st) (JpX okb atb st) := by
  rintro x rest D W ⟨done, h1, h2, h3, h4, h5, h6, h7, h8⟩
  obtain ⟨a, ha⟩ : ∃ a, done.length = a := ⟨_, rfl⟩
  obtain ⟨m, hm⟩ : ∃ m, L.length = m := ⟨_, rfl⟩
  have hLx : L[a]? = some x := by rw [← h1, ← ha]; simp
  have ham : a < m := by rw [← hm]; exact (List.getElem?_eq_some_iff.1 hLx).1
  have hL0 : L ≠ [] := fun e => by rw [e] at hm; simp at hm; omega
  rw [ha] at h4 h8
  obtain ⟨W1, hW1⟩ : ∃ W1, W.alloc (.cells #[.int .i64 x.1, .int .i64 x.2] 27) = W1 := ⟨_, rfl⟩
  have m1 : Mv D W W1 := by rw [← hW1]; exact Mv.alloc D _ _
  obtain ⟨bx, hbx⟩ : ∃ bx, W.heap.size = bx := ⟨_, rfl⟩
  have lok := h3.lt
  have lat := h4.lt
  have b1 : Mv (fun _ => False) W W1 := by rw [← hW1]; exact Mv.alloc _ _ _
  have x0 : W1.cell? ⟨bx, 0, none⟩ = some (.int .i64 x.1) := by rw [← hW1]; exact cell_at hbx rfl
  have x1 : W1.cell? ⟨bx, 1, none⟩ = some (.int .i64 x.2) := by rw [← hW1]; exact cell_at hbx rfl
  have ok1 : Cl okb (.bool true) W1 := h3.mv b1 (fun h => h)
  have at1 : Cl atb (.int .i64 a) W1 := h4.mv b1 (fun h => h)
  have mb1 := b1.cell (a := ⟨mb, 0, none⟩) (fun h => h) h5.2
  have sb1 := b1.cell (a := ⟨sb, 0, none⟩) (fun h => h) h7.2
  have sv1 : Mi.SV W1 v L := h6.1.mv b1 (fun _ _ h => h)
  obtain ⟨g, o, c, rfl, rs1⟩ := sv1.resolve_left (fun z => hL0 z.2)
  obtain ⟨y0, y1⟩ := rs1.ra.at hLx
  have hgk := h6.2 g rfl
  obtain ⟨W2, hW2⟩ : ∃ W2, W1.drew.setCell ⟨okb, 0, none⟩ (.bool true) = W2 := ⟨_, rfl⟩
  obtain ⟨W3, hW3⟩ : ∃ W3, W2.setCell ⟨atb, 0, none⟩ (.int .i64 ((a : Int) + 1)) = W3 := ⟨_, rfl⟩
  have m2 : Mv (fun k => k = okb) W1 W2 := by rw [← hW2]; exact (Mv.drew _ _).trans' (Mv.set1 (E := fun k => k = okb) rfl _)
  have m3 : Mv (fun k => k = atb) W2 W3 := by rw [← hW3]; exact Mv.set1 (E := fun k => k = atb) rfl _
  have o2 : Cl okb (.bool true) W2 := by rw [← hW2]; exact (ok1.mv (E := fun _ => False) (Mv.drew _ _) (fun h => h)).set _
  have a2 : Cl atb (.int .i64 a) W2 := at1.mv m2 (fun e => d1 e.symm)
  have o3 : Cl okb (.bool true) W3 := o2.mv m3 d1
  have a3 : Cl atb (.int .i64 ((a : Int) + 1)) W3 := by rw [← hW3]; exact a2.set _
  have sb3 : W3.cell? ⟨sb, 0, none⟩ = some (.int .i64 st) := m3.cell (a := ⟨sb, 0, none⟩) d3.2 (m2.cell (a := ⟨sb, 0, none⟩) d3.1 sb1)
  have m13 : Mv D W W3 := m1.trans' ((m2.mono fun k _ e => (h2 k).2 (.inl e)).trans' (m3.mono fun k _ e => (h2 k).2 (.inr e)))
  have cok : W1.drew.cell? ⟨okb, 0, none⟩ = some (.bool true) := ok1.c
  have fok : W1.drew.frozen? ⟨okb, 0, none⟩ = false := ok1.f
  have cat : W1.drew.cell? ⟨atb, 0, none⟩ = some (.int .i64 a) := at1.c
  have x0' : W1.drew.cell? ⟨bx, 0, none⟩ = some (.int .i64 x.1) := x0
  have x1' : W1.drew.cell? ⟨bx, 1, none⟩ = some (.int .i64 x.2) := x1
  have y0' : W1.drew.cell? ⟨g, o + a * 2, none⟩ = some (.int .i64 x.1) := y0
  have y1' : W1.drew.cell? ⟨g, o + a * 2 + 1, none⟩ = some (.int .i64 x.2) := y1
  have c2 := a2.c
  have f2 := a2.f
  have c3 := a3.c
  have co3 := o3.c
  rw [hm] at mb1
  have mb1' : W1.drew.cell? ⟨mb, 0, none⟩ = some (Mi.slv g o m c) := mb1
  have hamI : (a : Int) < (m : Int) := by omega
  have hmI : (m : Int) ≤ 1000 := by omega
  have e8 : ∀ i : Nat, 1 ≤ i → i ≤ a → (i : Int) ≠ st := h8
  have nxt : Hid ((a : Int) + 1 ≠ st → Jp B L okb atb mb sb (Mi.slv g o L.length c) st rest D W3) := fun hlt => by
    refine ⟨done ++ [x], by rw [List.append_assoc]; exact h1, h2, o3, ?_, ⟨h5.1, m3.cell (a := ⟨mb, 0, none⟩) d2.2 (m2.cell (a := ⟨mb, 0, none⟩) d2.1 (b1.cell (a := ⟨mb, 0, none⟩) (fun h => h) h5.2))⟩, ⟨((h6.1.mv b1 (fun _ _ h => h)).mv m2 (fun k hk e => (h6.2 k hk).2.1 e)).mv m3 (fun k hk e => (h6.2 k hk).2.2 e), h6.2⟩, ⟨h7.1, sb3⟩, fun i hi hi2 => ?_⟩
    · rw [show ((done ++ [x]).length : Int) = (a : Int) + 1 by simp [ha]]; exact a3
    · rw [List.length_append, ha] at hi2
      simp at hi2
      by_cases e : i = a + 1
      · subst e; simpa using hlt
      · exact e8 i hi (by omega)
  have stp : Hid (¬ (a : Int) + 1 ≠ st → JpX okb atb st D W3) := fun hlt => ⟨a + 1, o3, by simpa using a3, by simp; omega⟩
  have m13H := hidP m13
  clear h1 h2 h3 h4 h5 h6 h7 h8 m1 m2 m3 o2 a2 o3 a3 m13 ha hm hLx e8 sv1 rs1 b1 ok1 at1
  show Calls _ _ (#[.agg #[.int .i64 x.1, .int .i64 x.2], .pointer (some ⟨okb, 0, none⟩), .pointer (some ⟨atb, 0, none⟩), .pointer (some ⟨mb, 0, none⟩), .pointer (some ⟨sb, 0, none⟩)]) _ _
  go_enter Tryz.func14, Tryz.ntmps14
  go_wp2_with (rw [hW1])
  go_region
  go_wp2_with (first | rw [hW2] | rw [hW3])
  go_ret
  by_cases hlt : (a : Int) + 1 ≠ st
  · exact ⟨m13H.out, .inl ⟨by simp [hlt], D, Gr.refl _ _, nxt.out hlt⟩⟩
  · exact ⟨m13H.out, .inr ⟨by simp; omega, D, Gr.refl _ _, stp.out hlt⟩⟩
end Go.Proofs.YteimalemecgomaaGreat
