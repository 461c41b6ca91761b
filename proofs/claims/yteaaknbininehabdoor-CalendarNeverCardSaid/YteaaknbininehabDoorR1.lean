/- Contracts of the reference's leap, Length, yearDays, Weekday. -/
import Derived.Test.YteaaknbininehabDoorC2
namespace Go.Proofs.YteaaknbininehabDoor
open Go.RowKit
set_option maxHeartbeats 400000 in
theorem rLeap_any (y : Int) (w : World) (h0 : 0 ≤ y) (h1 : y ≤ 100000) :
    Calls Tryd.prog 66 #[.int .i64 y] w fun e w' => e = .returned (.bool (Civ.lpB y)) ∧ w' = w := by
  go_enter Tryd.func66, Tryd.ntmps66
  go_wp2
  all_goals go_ret
  all_goals refine ⟨ret_bool ?_, rfl⟩
  all_goals unfold Civ.lpB
  all_goals (rw [Bool.eq_iff_iff]; simp at *; omega)
set_option maxHeartbeats 400000 in
theorem rYear_any (y : Int) (w : World) (h0 : 0 ≤ y) (h1 : y ≤ 100000) :
    Calls Tryd.prog 45 #[.int .i64 y] w fun e w' => e = .returned (.int .i64 (365 + Civ.lp y)) ∧ w' = w := by
  have hl := rLeap_any y w h0 h1
  cases hb : Civ.lpB y
  · rw [hb] at hl
    have he : Hid (365 + Civ.lp y = 365) := by show _ = _; rw [lp_no hb]; rfl
    go_enter Tryd.func45, Tryd.ntmps45
    go_wp2_with fail
    refine hl.mono ?_
    rintro e w1 ⟨rfl, rfl⟩
    go_wp2_with fail
    go_ret
    exact ⟨ret_int he.out.symm, rfl⟩
  · rw [hb] at hl
    have he : Hid (365 + Civ.lp y = 366) := by show _ = _; rw [lp_yes hb]; rfl
    go_enter Tryd.func45, Tryd.ntmps45
    go_wp2_with fail
    refine hl.mono ?_
    rintro e w1 ⟨rfl, rfl⟩
    go_wp2_with fail
    go_ret
    exact ⟨ret_int he.out.symm, rfl⟩
theorem w64 (n : Int) (h : -9223372036854775808 ≤ n) (h' : n ≤ 9223372036854775807) : wrap64 n = n := by unfold wrap64; omega
theorem tmod_7 (x : Int) : x.tmod 7 = x - 7 * x.tdiv 7 ∧ -7 < x.tmod 7 ∧ x.tmod 7 < 7 := by
  have a := Int.mul_tdiv_add_tmod x 7
  have b := Int.lt_tmod_of_pos x (b := 7) (by omega)
  have c := Int.tmod_lt_of_pos x (b := 7) (by omega)
  omega
theorem week_r (n : Int) : (wrap64 ((wrap64 (n.tmod 7 + 3)).tmod 7 + 7)).tmod 7 = Civ.wd n := by
  obtain ⟨a1, a2, a3⟩ := tmod_7 n
  rw [w64 (n.tmod 7 + 3) (by omega) (by omega)]
  obtain ⟨b1, b2, b3⟩ := tmod_7 (n.tmod 7 + 3)
  rw [w64 _ (by omega) (by omega), Int.tmod_eq_emod_of_nonneg (by omega)]
  unfold Civ.wd
  omega
set_option maxRecDepth 100000 in
set_option maxHeartbeats 1000000 in
theorem rLength_any (y m : Int) (w : World) (h0 : 0 ≤ y) (h1 : y ≤ 100000) (m0 : 1 ≤ m) (m1 : m ≤ 12) :
    Calls Tryd.prog 46 #[.int .i64 y, .int .i64 m] w fun e w' => e = .returned (.int .i64 (Civ.dim y m)) ∧ Below w.heap.size w w' := by
  have hl := fun w => rLeap_any y w h0 h1
  by_cases hm : m = 2
  · subst hm
    cases hb : Civ.lpB y
    · have he : Hid (Civ.dim y 2 = 28) := dim_2n hb
      rw [hb] at hl
      go_enter Tryd.func46, Tryd.ntmps46
      go_wp2_with fail
      refine (hl _).mono ?_
      rintro e w1 ⟨rfl, rfl⟩
      go_wp2_with fail
      go_ret
      exact ⟨ret_int he.out.symm, (Below.refl _ _).alloc (Nat.le_refl _) _⟩
    · have he : Hid (Civ.dim y 2 = 29) := dim_2 hb
      rw [hb] at hl
      go_enter Tryd.func46, Tryd.ntmps46
      go_wp2_with fail
      refine (hl _).mono ?_
      rintro e w1 ⟨rfl, rfl⟩
      go_wp2_with fail
      go_ret
      exact ⟨ret_int he.out.symm, (Below.refl _ _).alloc (Nat.le_refl _) _⟩
  · have he : Hid (Civ.dim y m = lenOf m) := dim_len (by rintro ⟨h, _⟩; exact hm h)
    have hm' : m = 1 ∨ m = 3 ∨ m = 4 ∨ m = 5 ∨ m = 6 ∨ m = 7 ∨ m = 8 ∨ m = 9 ∨ m = 10 ∨ m = 11 ∨ m = 12 := by omega
    clear hm hl
    rcases hm' with rfl | rfl | rfl | rfl | rfl | rfl | rfl | rfl | rfl | rfl | rfl
    all_goals
      go_enter Tryd.func46, Tryd.ntmps46
      go_wp2_with fail
      go_ret
      exact ⟨ret_int he.out.symm, (Below.refl _ _).alloc (Nat.le_refl _) _⟩
end Go.Proofs.YteaaknbininehabDoor
