/- Contracts of package civil's small functions: leap years, lengths of months, days ahead of a year, days of the week. -/
import Derived.Test.YteaaknbininehabDoorProg
import Derived.Test.YteaaknbininehabDoorMath
import Derived.WalkKit
import Derived.WalkSpells
import Derived.BigQuiet
import Derived.Deep.QuietTactic
import Derived.KernelRfl
namespace Go.Proofs.YteaaknbininehabDoor
open Go.RowKit
theorem ret_int {k : IntKind} {a b : Int} (h : a = b) : Ending.returned (.int k a) = .returned (.int k b) := by rw [h]
theorem ret_bool {a b : Bool} (h : a = b) : Ending.returned (.bool a) = .returned (.bool b) := by rw [h]
def lenCells : List Int := [31, 28, 31, 30, 31, 30, 31, 31, 30, 31, 30, 31]
/-- The lengths of the months lie in the variable 'lengths'. -/
def LenIn (w : World) : Prop := ∀ (j : Nat) (v : Int), lenCells[j]? = some v → w.cell? ⟨1, j, none⟩ = some (.int .i64 v)
theorem lp_yes {y : Int} (h : Civ.lpB y = true) : Civ.lp y = 1 := by unfold Civ.lp; rw [if_pos h]
theorem lp_no {y : Int} (h : Civ.lpB y = false) : Civ.lp y = 0 := by unfold Civ.lp; rw [if_neg (by simp [h])]
set_option maxHeartbeats 400000 in
theorem isLeap_any (y : Int) (w : World) (h0 : 0 ≤ y) (h1 : y ≤ 100000) :
    Calls Tryd.prog 78 #[.int .i64 y] w fun e w' => e = .returned (.bool (Civ.lpB y)) ∧ w' = w := by
  go_enter Tryd.func78, Tryd.ntmps78
  go_wp2
  all_goals go_ret
  all_goals refine ⟨ret_bool ?_, rfl⟩
  all_goals unfold Civ.lpB
  all_goals (rw [Bool.eq_iff_iff]; simp at *; omega)
set_option maxHeartbeats 400000 in
theorem isMonth_any (y m : Int) (w : World) :
    Calls Tryd.prog 62 #[.int .i64 y, .int .i64 m] w fun e w' => e = .returned (.bool (Civ.monB y m)) ∧ w' = w := by
  go_enter Tryd.func62, Tryd.ntmps62
  go_wp2
  all_goals go_ret
  all_goals refine ⟨ret_bool ?_, rfl⟩
  all_goals unfold Civ.monB
  all_goals (rw [Bool.eq_iff_iff]; simp at *; omega)
set_option maxHeartbeats 400000 in
theorem leaps_any (y : Int) (w : World) (h0 : 1 ≤ y) (h1 : y ≤ 100000) :
    Calls Tryd.prog 64 #[.int .i64 y] w fun e w' => e = .returned (.int .i64 (Civ.lps y)) ∧ w' = w := by
  go_enter Tryd.func64, Tryd.ntmps64
  go_wp2
  go_ret
  exact ⟨ret_int rfl, rfl⟩
theorem lps_bd {y : Int} (h0 : 1 ≤ y) (h1 : y ≤ 100000) : 0 ≤ Civ.lps y ∧ Civ.lps y ≤ 30000 := by unfold Civ.lps; omega
theorem lps_70 : Civ.lps 1970 = 477 := by decide
set_option maxHeartbeats 400000 in
theorem ahead_any (y : Int) (w : World) (h0 : 1970 ≤ y) (h1 : y ≤ 100000) :
    Calls Tryd.prog 41 #[.int .i64 y] w fun e w' => e = .returned (.int .i64 (Civ.dby y)) ∧ w' = w := by
  obtain ⟨l0, l1⟩ := lps_bd (y := y) (by omega) h1
  obtain ⟨k0, k1⟩ := lps_bd (y := 1970) (by omega) (by omega)
  go_enter Tryd.func41, Tryd.ntmps41
  go_wp2_with (go_at_call 64; refine (leaps_any _ _ (by omega) (by omega)).mono ?_; rintro e w' ⟨rfl, rfl⟩)
  go_ret
  exact ⟨ret_int (by unfold Civ.dby; rw [lps_70]), rfl⟩
set_option maxHeartbeats 400000 in
theorem week_any (n : Int) (w : World) :
    Calls Tryd.prog 43 #[.int .i64 n] w fun e w' => e = .returned (.int .i64 (Civ.wd n)) ∧ w' = w := by
  have hb : -7 < n.tmod 7 ∧ n.tmod 7 < 7 := ⟨by have := Int.lt_tmod_of_pos n (b := 7) (by omega); omega, Int.tmod_lt_of_pos _ (by omega)⟩
  obtain ⟨b0, b1⟩ := hb
  have he : Hid (n.tmod 7 = n - 7 * n.tdiv 7) := by show _ = _; have := Int.mul_tdiv_add_tmod n 7; omega
  go_enter Tryd.func43, Tryd.ntmps43
  go_wp2
  go_ret
  refine ⟨ret_int ?_, rfl⟩
  unfold Civ.wd
  have := he.out
  omega
set_option maxHeartbeats 400000 in
theorem yearOf_any (n : Int) (w : World) (h0 : 0 ≤ n) (h1 : n < 84371) :
    Calls Tryd.prog 72 #[.int .i64 n] w fun e w' => e = .returned (.int .i64 (Civ.yr n)) ∧ w' = w := by
  have g0 := Civ.guess n h0
  go_enter Tryd.func72, Tryd.ntmps72
  go_wp2
  go_loop [3] (fun t => ∃ y : Int, 1970 ≤ y ∧ y ≤ 2200 ∧ Civ.dby y ≤ n ∧ t = .int .i64 y) (fun t => (2201 - intOf t).toNat)
  case atStart => exact ⟨_, by omega, by omega, g0, rfl⟩
  case round =>
    obtain ⟨y, hy1, hy2, hy3, rfl⟩ := hrel
    by_cases hd : Civ.dby (y + 1) ≤ n
    · have hy : y + 1 ≤ 2200 := by
        by_cases e : y + 1 ≤ 2200
        · exact e
        · have : y = 2200 := by omega
          subst this
          have := Civ.dby_2201
          have h9 : Civ.dby (2200 + 1) = Civ.dby 2201 := rfl
          omega
      go_wp2_with (go_at_call 41; refine (ahead_any _ _ (by omega) (by omega)).mono ?_; rintro e w' ⟨rfl, rfl⟩)
      exact ⟨⟨y + 1, by omega, by omega, hd, rfl⟩, by simp [intOf]; omega⟩
    · have he : Hid (Civ.yr n = y) := by show _ = _; exact Civ.yr_uniq h0 h1 hy3 (by omega)
      go_wp2_with (go_at_call 41; refine (ahead_any _ _ (by omega) (by omega)).mono ?_; rintro e w' ⟨rfl, rfl⟩)
      go_ret
      exact ⟨ret_int he.out.symm, rfl⟩
end Go.Proofs.YteaaknbininehabDoor
