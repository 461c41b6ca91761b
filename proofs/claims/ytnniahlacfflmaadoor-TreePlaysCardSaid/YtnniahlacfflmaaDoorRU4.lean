/- TreePlays: the code's tree and the document's side by side; each call of both. -/
import Derived.Test.YtnniahlacfflmaaDoorRU3
import Derived.Test.YtnniahlacfflmaaDoorTL
import Derived.Test.YtnniahlacfflmaaDoorTJ
import Derived.Test.YtnniahlacfflmaaDoorOpT
namespace Go.Proofs.YtnniahlacfflmaaDoor
open Go.RowKit Go.Shelf
/-- Bounds, behind j steps. -/
structure Bd (j : Nat) (P : Pl) (R : Rf) : Prop where
  l : P.ks.length ≤ j + 1
  st : R.st.length ≤ 2 * j
  sb : ∀ e ∈ R.st, 0 ≤ e.2 ∧ e.2 ≤ 2 * (j : Int)
  mt : R.mt.length ≤ j
  sz : ∀ x ∈ P.ks, x.size ≤ 500
theorem Bd.same {j : Nat} {P P' : Pl} {R R' : Rf} (h : Bd j P R) (h1 : P'.ks = P.ks) (h2 : R'.st = R.st) (h3 : R'.mt.length ≤ R.mt.length + 1) : Bd (j + 1) P' R' :=
  ⟨by rw [h1]; have := h.l; omega, by rw [h2]; have := h.st; omega, fun e he => by rw [h2] at he; have := h.sb e he; push_cast; omega, by have := h.mt; omega, by rw [h1]; exact h.sz⟩
theorem Bd.marks {j : Nat} {P P' : Pl} {R R' : Rf} (h : Bd j P R) {s q : ByteArray} (h1 : P'.ks.length ≤ P.ks.length + 1) (h1s : ∀ x ∈ P'.ks, x.size ≤ 500) (h2 : R'.st = rMark q (rMark s R.st)) (h3 : R'.mt = R.mt) : Bd (j + 1) P' R' := by
  have a := rMark_len s R.st
  have b := rMark_len q (rMark s R.st)
  have c := rMark_bd (s := s) (k := 2 * (j : Int)) (by omega) h.sb
  have d := rMark_bd (s := q) (k := 2 * (j : Int) + 1) (by omega) c
  exact ⟨by have := h.l; omega, by rw [h2]; have := h.st; omega, fun e he => by rw [h2] at he; have := d e he; push_cast; omega, by rw [h3]; have := h.mt; omega, h1s⟩
theorem Bd.mark {j : Nat} {P P' : Pl} {R R' : Rf} (h : Bd j P R) {s : ByteArray} (h1 : P'.ks = P.ks) (h2 : R'.st = rMark s R.st) (h3 : R'.mt = R.mt) : Bd (j + 1) P' R' := by
  have a := rMark_len s R.st
  have c := rMark_bd (s := s) (k := 2 * (j : Int)) (by omega) h.sb
  exact ⟨by rw [h1]; have := h.l; omega, by rw [h2]; have := h.st; omega, fun e he => by rw [h2] at he; have := c e he; push_cast; omega, by rw [h3]; have := h.mt; omega, by rw [h1]; exact h.sz⟩
theorem ks_touch (P : Pl) (s : ByteArray) : (touchP P s).2.ks = P.ks := by unfold touchP; split; rfl; split <;> rfl
theorem ks_mount (P : Pl) (t s : ByteArray) : (mountP P t s).2.ks = P.ks := by unfold mountP; split; rfl; split; split; rfl; split <;> rfl; rfl
theorem ks_unmount (P : Pl) (s : ByteArray) : (unmountP P s).2.ks = P.ks := by unfold unmountP; split; rfl; split; split; rfl; split <;> rfl; rfl
theorem ks_make (P : Pl) (s : ByteArray) (f : Bool) : (makeP P s f).2.ks = P.ks ∨ (makeP P s f).2.ks = insS s P.ks := by unfold makeP; split; exact .inl rfl; split; exact .inl rfl; split; exact .inl rfl; exact .inr rfl
theorem ks_remove (P : Pl) (s : ByteArray) : (removeP P s).2.ks = P.ks ∨ (removeP P s).2.ks = remS s P.ks := by unfold removeP; split; exact .inl rfl; split; split; exact .inl rfl; exact .inr rfl; exact .inl rfl
theorem Bd.make {j : Nat} {P : Pl} {R : Rf} (h : Bd j P R) (s : ByteArray) (f : Bool) (hs : s.size ≤ 500) : Bd (j + 1) (makeP P s f).2 (rMakeP R s f).2 := by
  have hl : (makeP P s f).2.ks.length ≤ P.ks.length + 1 := by
    rcases ks_make P s f with e | e
    · rw [e]; omega
    · rw [e, (insS_perm s P.ks).length_eq]; simp
  have hz : ∀ x ∈ (makeP P s f).2.ks, x.size ≤ 500 := by
    rcases ks_make P s f with e | e
    · rw [e]; exact h.sz
    · rw [e]; exact fun x hx => (mem_insS.1 hx).elim (fun z => by rw [z]; exact hs) (h.sz x)
  have key : ∀ R', (R' = R ∨ (R'.st = rMark (fo s) (rMark s R.st) ∧ R'.mt = R.mt)) → Bd (j + 1) (makeP P s f).2 R' := by
    rintro R' (rfl | ⟨e1, e2⟩)
    · exact ⟨by have := h.l; omega, by have := h.st; omega, fun e he => by have := h.sb e he; push_cast; omega, by have := h.mt; omega, hz⟩
    · exact h.marks hl hz e1 e2
  apply key
  unfold rMakeP
  split; exact .inl rfl; split; exact .inl rfl; split; exact .inl rfl; split; exact .inl rfl; exact .inr ⟨rfl, rfl⟩
theorem Bd.remove {j : Nat} {P : Pl} {R : Rf} (h : Bd j P R) (s : ByteArray) : Bd (j + 1) (removeP P s).2 (rRemoveP R s).2 := by
  have hl : (removeP P s).2.ks.length ≤ P.ks.length + 1 := by
    rcases ks_remove P s with e | e
    · rw [e]; omega
    · rw [e]; have : (remS s P.ks).length ≤ P.ks.length := List.length_filter_le _ _
      omega
  have hz : ∀ x ∈ (removeP P s).2.ks, x.size ≤ 500 := by
    rcases ks_remove P s with e | e
    · rw [e]; exact h.sz
    · rw [e]; exact fun x hx => h.sz x (mem_remS.1 hx).1
  have key : ∀ R', (R' = R ∨ (R'.st = rMark (fo s) (rMark s R.st) ∧ R'.mt = R.mt)) → Bd (j + 1) (removeP P s).2 R' := by
    rintro R' (rfl | ⟨e1, e2⟩)
    · exact ⟨by have := h.l; omega, by have := h.st; omega, fun e he => by have := h.sb e he; push_cast; omega, by have := h.mt; omega, hz⟩
    · exact h.marks hl hz e1 e2
  apply key
  unfold rRemoveP
  split; exact .inl rfl; split; exact .inl rfl; split; exact .inl rfl; split; exact .inl rfl; exact .inr ⟨rfl, rfl⟩
theorem Bd.touch {j : Nat} {P : Pl} {R : Rf} (h : Bd j P R) (s : ByteArray) : Bd (j + 1) (touchP P s).2 (rTouchP R s).2 := by
  unfold rTouchP
  split
  · exact h.same (ks_touch P s) rfl (Nat.le_succ _)
  · split
    · exact h.same (ks_touch P s) rfl (Nat.le_succ _)
    · exact h.mark (ks_touch P s) rfl rfl
theorem Bd.mount {j : Nat} {P : Pl} {R : Rf} (h : Bd j P R) (t s : ByteArray) : Bd (j + 1) (mountP P t s).2 (rMountP R t s).2 := by
  unfold rMountP
  split; exact h.same (ks_mount P t s) rfl (Nat.le_succ _)
  split; exact h.same (ks_mount P t s) rfl (Nat.le_succ _)
  split; exact h.same (ks_mount P t s) rfl (Nat.le_succ _)
  split; exact h.same (ks_mount P t s) rfl (Nat.le_succ _)
  exact h.same (ks_mount P t s) rfl (by simp)
theorem Bd.unmount {j : Nat} {P : Pl} {R : Rf} (h : Bd j P R) (s : ByteArray) : Bd (j + 1) (unmountP P s).2 (rUnmountP R s).2 := by
  unfold rUnmountP
  split; exact h.same (ks_unmount P s) rfl (Nat.le_succ _)
  split; exact h.same (ks_unmount P s) rfl (Nat.le_succ _)
  split; exact h.same (ks_unmount P s) rfl (Nat.le_succ _)
  exact h.same (ks_unmount P s) rfl (by have := (rCut_sub s R.mt).length_le; show (rCut s R.mt).length ≤ _; omega)
/-- Both in memory, apart from what is kept (Pf), behind j steps. -/
def Tp (w : World) (Pf : Nat → Prop) (bt rb j : Nat) (W : World) : Prop :=
  ∃ S R E, S.bt = bt ∧ Fr w S W ∧ Rt W rb E R ∧ Ag S.p R ∧ Wf S.p ∧ Bd j S.p R ∧ S.c ≤ 1 + 1001 * j ∧ (∀ k, E k → ¬ hasB S k ∧ w.heap.size ≤ k ∧ ¬ Pf k) ∧ ∀ k, Pf k → ¬ hasB S k ∧ k < W.heap.size
theorem Tp.below {w W V : World} {Pf : Nat → Prop} {bt rb j : Nat} (h : Tp w Pf bt rb j W) (b : Below W.heap.size W V) : Tp w Pf bt rb j V := by
  obtain ⟨S, R, E, h1, h2, h3, h4, h5, h6, h7, h8, h9⟩ := h
  exact ⟨S, R, E, h1, h2.below b, h3.below b, h4, h5, h6, h7, h8, fun k hk => ⟨(h9 k hk).1, Nat.lt_of_lt_of_le (h9 k hk).2 b.size⟩⟩
theorem Tp.w {w W : World} {Pf : Nat → Prop} {bt rb j : Nat} (h : Tp w Pf bt rb j W) : Below w.heap.size w W := by
  obtain ⟨S, R, E, h1, h2, _⟩ := h
  exact h2.b
/-- A call of the code, then one of the document's: what is asked of each. -/
theorem Tp.two {w W : World} {Pf : Nat → Prop} {bt rb j : Nat} (h : Tp w Pf bt rb j W) {f g : Nat} {af ag : Array Value} (d : Nat) (hd : d ≤ 1001) (hc : ∀ S R, S.bt = bt → Ag S.p R → Wf S.p → Bd j S.p R → S.c ≤ 1 + 1001 * j → ∃ (ev : Int) (P' : Pl) (R' : Rf), (∀ V, Ts V S → Calls Tryd.prog f af V fun e V1 => e = .returned (.int .i64 ev) ∧ Goes S V P' d V1) ∧ (∀ V E, Rt V rb E R → Calls Tryd.prog g ag V fun e V1 => e = .returned (.int .i64 ev) ∧ Rto V rb E R' V1) ∧ Ag P' R' ∧ Wf P' ∧ Bd (j + 1) P' R') :
    ∃ ev : Int, ∀ V, Below W.heap.size W V → Calls Tryd.prog f af V fun e V1 => e = .returned (.int .i64 ev) ∧ Mv (fun k => ¬ Pf k) V V1 ∧ Calls Tryd.prog g ag V1 fun e V2 => e = .returned (.int .i64 ev) ∧ Mv (fun k => ¬ Pf k) V1 V2 ∧ Tp w Pf bt rb (j + 1) V2 := by
  obtain ⟨S, R, E, h1, h2, h3, h4, h5, h6, h7, h8, h9⟩ := h
  obtain ⟨ev, P', R', c1, c2, c3, c4, c5⟩ := hc S R h1 h4 h5 h6 h7
  refine ⟨ev, fun V b => ?_⟩
  have f2 := h2.below b
  have r2 := h3.below b
  refine (c1 V f2.g).mono ?_
  rintro e V1 ⟨rfl, go⟩
  have f3 := f2.step go
  have own_has : ∀ k, own S k → hasB S k := fun k hk => hk.elim (fun e => .inr (.inl e)) (fun e => .inr (.inr (.inl e)))
  have r3 := r2.mv go.m (fun k hk ho => (h8 k hk).1 (own_has k ho))
  refine ⟨rfl, go.m.mono fun k _ ho p => (h9 k p).1 (own_has k ho), (c2 V1 E r3).mono ?_⟩
  rintro e V2 ⟨rfl, E', g1, g2, g3⟩
  have hlt : ∀ k, hasB S k → k < V1.heap.size := fun k hk => f3.g.lt (S := { S with p := P', c := S.c + d }) hk
  have hE : ∀ k, E' k → ¬ hasB S k ∧ w.heap.size ≤ k ∧ ¬ Pf k := fun k hk => by
    rcases g3 k hk with z | z
    · exact h8 k z
    · have s1 := f3.b.size
      refine ⟨fun q => by have := hlt k q; omega, by omega, fun p => by have := (h9 k p).2; have := b.size; have := go.m.size; omega⟩
  refine ⟨rfl, g2.mono fun k _ hk => (h8 k hk).2.2, { S with p := P', c := S.c + d }, R', E', h1, ⟨f3.g.mv g2 (fun k hk he => (h8 k he).1 hk), f3.b.trans (g2.toBelow f3.b.size fun k hk he => by have := (h8 k he).2.1; omega), f3.nt, f3.nh, f3.ns⟩, g1, c3, c4, c5, by show S.c + d ≤ _; omega, hE, fun k p => ⟨(h9 k p).1, ?_⟩⟩
  have := (h9 k p).2
  have := b.size
  have := go.m.size
  have := g2.size
  omega
end Go.Proofs.YtnniahlacfflmaaDoor
