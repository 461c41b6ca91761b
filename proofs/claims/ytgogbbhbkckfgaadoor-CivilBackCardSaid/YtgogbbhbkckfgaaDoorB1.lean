/- The law CivilBack, walked. -/
import Derived.Test.YtgogbbhbkckfgaaDoorU1
import Derived.Test.YtgogbbhbkckfgaaDoorY1
namespace Go.Proofs.YtgogbbhbkckfgaaDoor
open Go.RowKit
abbrev datV (y m d : Int) : Value := .agg #[.int .i64 y, .int .i64 m, .int .i64 d]
/-- What the law says of the time t: no moment, or one that goes back to t. -/
def Tl (t : Int) : Prop :=
  (∀ w, LenIn w → Calls Tryd.prog 21 #[.int .i64 t] w fun e w' => e = .returned (.tuple #[momV 0 0 0 0 0 0, .int .i64 20]) ∧ Below w.heap.size w w') ∨
  ∃ a b c e f i : Int, (∀ w, LenIn w → Calls Tryd.prog 21 #[.int .i64 t] w fun z w' => z = .returned (.tuple #[momV a b c e f i, .int .i64 0]) ∧ Below w.heap.size w w') ∧
    (∀ w, LenIn w → Calls Tryd.prog 19 #[momV a b c e f i] w fun z w' => z = .returned (.tuple #[.int .i64 t, .int .i64 0]) ∧ Below w.heap.size w w')
theorem tl_any (t : Int) : Tl t := by
  by_cases h : t < 0 ∨ 7289654400 ≤ t
  · exact .inl fun w _ => moment_no t w h
  · have h0 : 0 ≤ t := by omega
    have h1 : t < 7289654400 := by omega
    refine .inr ⟨_, _, _, _, _, _, fun w hT => moment_yes t w hT h0 h1, fun w hT => ?_⟩
    have hv := Civ.date_vld (n := t / 86400) (by omega) (by omega)
    have ht : Civ.timB (mH t) (mMi t) (mS t) = true := Civ.timB_iff.2 (by unfold mH mMi mS; omega)
    have hs : Civ.sec (Civ.dY (t / 86400)) (Civ.dM (t / 86400)) (Civ.dD (t / 86400)) (mH t) (mMi t) (mS t) = t := by
      unfold Civ.sec; rw [Civ.date_num]; unfold mH mMi mS; omega
    have := unix_yes _ _ _ _ _ _ w hT hv ht
    rwa [hs] at this
set_option maxRecDepth 100000 in
set_option maxHeartbeats 2000000 in
theorem back_out (n t : Int) (w : World) (hT : LenIn w) (h : n < 0 ∨ 84371 ≤ n) :
    Calls Tryd.prog 4 #[.int .i64 n, .int .i64 t] w fun e w' => e = .returned (.bool true) ∧ Below w.heap.size w w' := by
  have q1 := fun w => date_no n w h
  rcases tl_any t with l1 | ⟨a, b, c, e, f, i, l1, l2⟩
  all_goals
    clear h
    go_enter Tryd.func4, Tryd.ntmps4
    go_wp2_with fail
    refine (known_any w hT).mono ?_
    rintro z w1 ⟨rfl, hb1⟩
    have hT1 := hT.below hT.pos hb1
    go_wp2_with fail
    refine (q1 _).mono ?_
    rintro z w2 ⟨rfl, hb2⟩
    clear q1
    have hB := (below_two hb1 hb2)
    clear hT1 hb1 hb2
    have hT2 := (hT.below hT.pos hB).alloc (.cells #[.int .i64 0, .int .i64 0, .int .i64 0] 23)
    have hB2 := hB.alloc hB.size (.cells #[.int .i64 0, .int .i64 0, .int .i64 0] 23)
    go_wp2_with fail
    refine (l1 _ hT2).mono ?_
    rintro z w3 ⟨rfl, hb3⟩
    have hB3 := hB2.trans (hb3.mono hB2.size)
    clear l1
    go_wp2_with fail
  · go_ret
    exact ⟨rfl, hB3.alloc hB3.size _⟩
  · refine (l2 _ (((hT.below hT.pos hB3)).alloc _)).mono ?_
    rintro z w4 ⟨rfl, hb4⟩
    go_wp2_with fail
    go_ret
    exact ⟨rfl, (hB3.alloc hB3.size _).trans (hb4.mono (by have := hB3.size; simp; omega))⟩
end Go.Proofs.YtgogbbhbkckfgaaDoor
