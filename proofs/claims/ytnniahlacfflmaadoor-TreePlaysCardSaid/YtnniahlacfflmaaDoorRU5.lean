/- TreePlays: each call of both. -/
import Derived.Test.YtnniahlacfflmaaDoorRU4
namespace Go.Proofs.YtnniahlacfflmaaDoor
open Go.RowKit Go.Shelf
theorem hdm_of {P : Pl} {R : Rf} (h : Wf P) (a : Ag P R) : ∀ e ∈ R.mt, hd (byt e.2) := fun e he => isP_hd (h.ok _ (h.m_in ((a.m_iff e.2).2 ⟨e, he, rfl⟩)))
theorem hdl_of {P : Pl} {R : Rf} (h : Wf P) (a : Ag P R) : ∀ e ∈ R.l, hd (byt e.1) := fun e he => by
  rw [a.l] at he
  obtain ⟨q, hq, rfl⟩ := List.mem_map.1 he
  exact isP_hd (h.ok q hq)
theorem len_of {P : Pl} {R : Rf} (a : Ag P R) : R.l.length = P.ks.length := by rw [a.l, List.length_map]
abbrev pT (b : Nat) : Value := .pointer (some ⟨b, 0, none⟩)
/-- What a call of each leaves. -/
def Two (w W : World) (Pf : Nat → Prop) (bt rb j f g : Nat) (af ag : Array Value) : Prop :=
  ∃ ev : Int, ∀ V, Below W.heap.size W V → Calls Tryd.prog f af V fun e V1 => e = .returned (.int .i64 ev) ∧ Mv (fun k => ¬ Pf k) V V1 ∧ Calls Tryd.prog g ag V1 fun e V2 => e = .returned (.int .i64 ev) ∧ Mv (fun k => ¬ Pf k) V1 V2 ∧ Tp w Pf bt rb (j + 1) V2
section
variable {w W : World} {Pf : Nat → Prop} {bt rb j : Nat}
theorem make_two (h : Tp w Pf bt rb j W) (hj : j ≤ 100) (s : ByteArray) (f : Bool) (hs : s.size ≤ 500) : Two w W Pf bt rb j 10 11 #[pT bt, .string s, .bool f] #[pT rb, .string s, .bool f] :=
  h.two 4 (by omega) fun S R hb a hw hB hc => ⟨(makeP S.p s f).1, (makeP S.p s f).2, (rMakeP R s f).2, fun V ts => by rw [← hb]; exact make_any S s f V ts (by omega) (by omega), fun V E hR => by
    rw [← (make_ag hw a s f).1]
    exact rmake_any hR (by rw [len_of a]; have := hB.l; omega) (by have := hB.st; omega) (fun e he => by have := hB.sb e he; omega) s f (by omega), (make_ag hw a s f).2, hw.make s f, hB.make s f hs⟩
theorem touch_two (h : Tp w Pf bt rb j W) (hj : j ≤ 100) (s : ByteArray) (hs : s.size ≤ 500) : Two w W Pf bt rb j 12 13 #[pT bt, .string s] #[pT rb, .string s] :=
  h.two 1 (by omega) fun S R hb a hw hB hc => ⟨(touchP S.p s).1, (touchP S.p s).2, (rTouchP R s).2, fun V ts => by rw [← hb]; exact touch_any S s V ts (by omega) (by omega), fun V E hR => by
    rw [← (touch_ag hw a s).1]
    exact rtouch_any hR (by rw [len_of a]; have := hB.l; omega) (by have := hB.st; omega) (fun e he => by have := hB.sb e he; omega) s (by omega), (touch_ag hw a s).2, hw.touch s, hB.touch s⟩
theorem remove_two (h : Tp w Pf bt rb j W) (hj : j ≤ 100) (s : ByteArray) (hs : s.size ≤ 500) : Two w W Pf bt rb j 14 15 #[pT bt, .string s] #[pT rb, .string s] :=
  h.two 4 (by omega) fun S R hb a hw hB hc => ⟨(removeP S.p s).1, (removeP S.p s).2, (rRemoveP R s).2, fun V ts => by rw [← hb]; exact remove_any S s V ts hw (by omega) (by omega), fun V E hR => by
    rw [← (remove_ag hw a s).1]
    exact rremove_any hR (by rw [len_of a]; have := hB.l; omega) (by have := hB.mt; omega) (by have := hB.st; omega) (fun e he => by have := hB.sb e he; omega) (hdl_of hw a) s (by omega), (remove_ag hw a s).2, hw.remove s, hB.remove s⟩
theorem mount_two (h : Tp w Pf bt rb j W) (hj : j ≤ 100) (t s : ByteArray) (hs : s.size ≤ 500) : Two w W Pf bt rb j 16 17 #[pT bt, .string t, .string s] #[pT rb, .string t, .string s] :=
  h.two 1001 (by omega) fun S R hb a hw hB hc => ⟨(mountP S.p t s).1, (mountP S.p t s).2, (rMountP R t s).2, fun V ts => by rw [← hb]; exact mount_any S t s V ts hw (by omega) (by omega), fun V E hR => by
    rw [← (mount_ag hw a t s).1]
    exact rmount_any hR (by rw [len_of a]; have := hB.l; omega) (by have := hB.mt; omega) t s (by omega), (mount_ag hw a t s).2, hw.mount t s, hB.mount t s⟩
theorem unmount_two (h : Tp w Pf bt rb j W) (hj : j ≤ 100) (s : ByteArray) (hs : s.size ≤ 500) : Two w W Pf bt rb j 18 19 #[pT bt, .string s] #[pT rb, .string s] :=
  h.two 1001 (by omega) fun S R hb a hw hB hc => ⟨(unmountP S.p s).1, (unmountP S.p s).2, (rUnmountP R s).2, fun V ts => by rw [← hb]; exact unmount_any S s V ts hw (by omega) (by omega), fun V E hR => by
    rw [← (unmount_ag hw a s).1]
    exact runmount_any hR (by have := hB.mt; omega) (hdm_of hw a) s (by omega), (unmount_ag hw a s).2, hw.unmount s, hB.unmount s⟩
/-- A call that tells v and leaves what lay there. -/
def Tells (W : World) (f : Nat) (args : Array Value) (v : Value) : Prop := ∀ V, Below W.heap.size W V → Calls Tryd.prog f args V fun e V2 => e = .returned v ∧ Below V.heap.size V V2
structure Reads (W : World) (bt rb : Nat) (s : ByteArray) (mw : ByteArray) (mb eb : Bool) (sv : Int) : Prop where
  mc : Tells W 20 #[pT bt, .string s] (.tuple #[.string mw, .bool mb])
  mr : Tells W 21 #[pT rb, .string s] (.tuple #[.string mw, .bool mb])
  ec : Tells W 22 #[pT bt, .string s] (.bool eb)
  er : Tells W 23 #[pT rb, .string s] (.bool eb)
  sc : Tells W 24 #[pT bt, .string s] (.int .i64 sv)
  sr : Tells W 25 #[pT rb, .string s] (.int .i64 sv)
theorem reads_of (h : Tp w Pf bt rb j W) (hj : j ≤ 200) (s : ByteArray) (hs : s.size ≤ 500) : ∃ mw mb eb sv, Reads W bt rb s mw mb eb sv := by
  obtain ⟨S, R, E, h1, h2, h3, a, hw, hB, _⟩ := h
  have hz : s.size ≤ 1000 := by omega
  have hm : rMt s R.mt = if (S.p.nd s).m = true then some (S.p.nd s).wh else none := a.mt s
  refine ⟨(S.p.nd s).wh, (S.p.nd s).m, inS s S.p.ks, S.p.st s, fun V b => ?_, fun V b => ?_, fun V b => ?_, fun V b => ?_, fun V b => ?_, fun V b => ?_⟩
  · rw [← h1]; exact mounted_any S s V (h2.g.below b) hz
  · have := rMounted_any (h3.below b) (by have := hB.mt; omega) s
    cases e : (S.p.nd s).m with
    | true =>
      rw [hm, if_pos e] at this
      exact this.mono fun e V2 z => ⟨z.1, by rw [z.2]; exact Below.refl _ _⟩
    | false =>
      rw [hm, if_neg (by rw [e]; decide)] at this
      rw [hw.wh s e]
      exact this.mono fun e V2 z => ⟨z.1, by rw [z.2]; exact Below.refl _ _⟩
  · rw [← h1]; exact exists_any S s V (h2.g.below b) hz
  · rw [← thF_ks hw a s]
    exact rexists_any (h3.below b) (by rw [len_of a]; have := hB.l; omega) s
  · rw [← h1]; exact (stamp_any S s V (h2.g.below b) hz).mono fun e V2 z => ⟨z.1, by rw [z.2]; exact Below.refl _ _⟩
  · rw [← a.st s]; exact (rstamp_any (h3.below b) (by have := hB.st; omega) s).mono fun e V2 z => ⟨z.1, by rw [z.2]; exact Below.refl _ _⟩
/-- All of the code's tree, against the document's; the boxes C and D hold both. -/
theorem all_two (h : Tp w Pf bt rb j W) (hj : j ≤ 200) {O A C D pt : Nat} (hP : ∀ k, (k = O ∨ k = A) → Pf k) (cT : W.cell? ⟨pt, 0, none⟩ = some (pT bt)) (cO : W.cell? ⟨O, 0, none⟩ = some (.bool true)) (fO : W.frozen? ⟨O, 0, none⟩ = false) (cA : W.cell? ⟨A, 0, none⟩ = some (.int .i64 0)) (fA : W.frozen? ⟨A, 0, none⟩ = false) (cC : W.cell? ⟨C, 0, none⟩ = some (pT rb)) (cD : W.cell? ⟨D, 0, none⟩ = some (pT bt)) (hAO : A ≠ O) (nC : C ≠ O ∧ C ≠ A) (nD : D ≠ O ∧ D ≠ A) (nP : pt ≠ O ∧ pt ≠ A) :
    ∃ pr n cr, W.cell? ⟨rb, 0, none⟩ = some (.slice pr n cr) ∧ rb ≠ O ∧ rb ≠ A ∧ Calls Tryd.prog 39 #[.func (.func 27) #[] #[pT O, pT A, pT C, pT D], pT pt] W fun e V => e = .returned (.tuple #[]) ∧ Mv (fun j => j = O ∨ j = A) W V ∧ V.cell? ⟨O, 0, none⟩ = some (.bool true) ∧ V.cell? ⟨A, 0, none⟩ = some (.int .i64 n) := by
  obtain ⟨S, R, E, h1, h2, h3, a, hw, hB, hc, h8, h9⟩ := h
  have nR : ∀ k, E k → k ≠ O ∧ k ≠ A := fun k hk => ⟨fun e => (h8 k hk).2.2 (hP k (.inl e)), fun e => (h8 k hk).2.2 (hP k (.inr e))⟩
  obtain ⟨vl, vs, vm, ⟨c0, _, _⟩, _, ⟨s0, _, _⟩, _⟩ := (id h3 : Rt W rb E R)
  obtain ⟨pr, cr, rfl⟩ := s0.shape
  rw [len_of a] at c0
  refine ⟨pr, _, cr, c0, (nR rb h3.rb).1, (nR rb h3.rb).2, ?_⟩
  rw [← h1] at cT cD
  exact allt_any h2.g h3 a hw (by omega) (by have := hB.l; omega) (by have := hB.st; omega) (fun x hx => by have := hB.sz x hx; omega) cT cO fO cA fA cC cD hAO (fun k hk => ⟨fun e => (h9 k (hP k (.inl e))).1 hk, fun e => (h9 k (hP k (.inr e))).1 hk⟩) nR nC nD nP
end
end Go.Proofs.YtnniahlacfflmaaDoor
