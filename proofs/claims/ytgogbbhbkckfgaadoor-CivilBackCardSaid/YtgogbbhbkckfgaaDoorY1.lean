/- The law CivilYears, walked. -/
import Derived.Test.YtgogbbhbkckfgaaDoorK1
namespace Go.Proofs.YtgogbbhbkckfgaaDoor
open Go.RowKit
theorem num_11 (y : Int) : Civ.num y 1 1 = Civ.dby y := by unfold Civ.num; simp [Civ.cum]
theorem vld_11 {y : Int} (h : 1970 ≤ y) (h' : y ≤ 2200) : Civ.vldB y 1 1 = true := Civ.vldB_iff.2 ⟨h, h', by omega, by omega, by omega, by have := (Civ.dim_bd y 1).1; omega⟩
theorem vld_11n {y : Int} (h : y < 1970 ∨ 2200 < y) : Civ.vldB y 1 1 = false := by unfold Civ.vldB; rw [decide_eq_false]; omega
theorem vld_229 {y : Int} (h : 1970 ≤ y) (h' : y ≤ 2200) (hl : Civ.lpB y = true) : Civ.vldB y 2 29 = true := Civ.vldB_iff.2 ⟨h, h', by omega, by omega, by omega, by rw [dim_2 hl]; omega⟩
theorem vld_229n {y : Int} (hl : Civ.lpB y = false) : Civ.vldB y 2 29 = false := by unfold Civ.vldB; rw [decide_eq_false]; rw [dim_2n hl]; omega
theorem below_two {w w1 w2 : World} (h1 : Below w.heap.size w w1) (h2 : Below w1.heap.size w1 w2) : Below w.heap.size w w2 := h1.trans (h2.mono h1.size)
set_option maxHeartbeats 1000000 in
theorem years_out (y : Int) (w : World) (hT : LenIn w) (h : y < 1970 ∨ 2200 < y) :
    Calls Tryd.prog 6 #[.int .i64 y] w fun e w' => e = .returned (.bool true) ∧ Below w.heap.size w w' := by
  have hv := vld_11n h
  have hy : (y == 2200) = false := by simp; omega
  have hg : y < 1970 ∨ (¬ y < 1970 ∧ 2200 ≤ y) := by omega
  clear h
  rcases hg with hg | ⟨hg, hg'⟩
  all_goals
    go_enter Tryd.func6, Tryd.ntmps6
    go_wp2_with fail
    refine (known_any w hT).mono ?_
    rintro e w1 ⟨rfl, hb1⟩
    have hT1 := hT.below hT.pos hb1
    go_wp2_with fail
    refine (days_no y 1 1 _ hT1 hv).mono ?_
    rintro e w2 ⟨rfl, hb2⟩
    go_wp2_with fail
    go_ret
    exact ⟨rfl, below_two hb1 hb2⟩
set_option maxHeartbeats 1000000 in
theorem years_last (w : World) (hT : LenIn w) :
    Calls Tryd.prog 6 #[.int .i64 2200] w fun e w' => e = .returned (.bool true) ∧ Below w.heap.size w w' := by
  go_enter Tryd.func6, Tryd.ntmps6
  go_wp2_with fail
  refine (known_any w hT).mono ?_
  rintro e w1 ⟨rfl, hb1⟩
  have hT1 := hT.below hT.pos hb1
  go_wp2_with fail
  refine (days_yes 2200 1 1 _ hT1 (by decide)).mono ?_
  rintro e w2 ⟨rfl, hb2⟩
  go_wp2_with fail
  go_ret
  exact ⟨rfl, below_two hb1 hb2⟩
theorem leap_ways (y : Int) : (y % 4 == 0) = false ∧ Civ.lpB y = false ∨ (y % 4 == 0) = true ∧ ¬ y % 100 = 0 ∧ Civ.lpB y = true ∨ (y % 4 == 0) = true ∧ y % 100 = 0 ∧ (y % 400 == 0) = true ∧ Civ.lpB y = true ∨ (y % 4 == 0) = true ∧ y % 100 = 0 ∧ (y % 400 == 0) = false ∧ Civ.lpB y = false := by
  unfold Civ.lpB
  simp
  omega
set_option maxHeartbeats 4000000 in
theorem years_in (y : Int) (w : World) (hT : LenIn w) (h0 : 1970 ≤ y) (h1 : y < 2200) :
    Calls Tryd.prog 6 #[.int .i64 y] w fun e w' => e = .returned (.bool true) ∧ Below w.heap.size w w' := by
  have ha := vld_11 h0 (by omega)
  have hb := vld_11 (y := y + 1) (by omega) (by omega)
  have da := Civ.dby_bd h0 (by omega)
  have hs : Hid (Civ.dby (y + 1) = Civ.dby y + 365 + Civ.lp y) := Civ.dby_succ y
  have l1 := fun w hT => days_yes y 1 1 w hT ha
  have l2 := fun w hT => days_yes (y + 1) 1 1 w hT hb
  rw [num_11] at l1 l2
  have hg : decide (y < 1970) = false := by simpa using h0
  have hg' : decide (2200 ≤ y) = false := by simpa using h1
  rw [hs.out] at l2
  rcases leap_ways y with ⟨q1, q2⟩ | ⟨q1, q2, q3⟩ | ⟨q1, q2, q3, q4⟩ | ⟨q1, q2, q3, q4⟩
  · have hl := lp_no q2
    have hv := vld_229n q2
    have hd : Civ.dby y + 365 - Civ.dby y = 365 := by omega
    have l3 := fun w hT => is_any y 2 29 w hT
    have l4 := fun w => lawDays_any false w
    rw [hl] at l2
    rw [hv] at l3
    clear hl q2 hs ha hb hv
    go_enter Tryd.func6, Tryd.ntmps6
    go_wp2_with fail
    refine (known_any w hT).mono ?_
    rintro e w1 ⟨rfl, hb1⟩
    have hT1 := hT.below hT.pos hb1
    go_wp2_with fail
    refine (l1 _ hT1).mono ?_
    rintro e w2 ⟨rfl, hb2⟩
    have hT2 := hT1.below hT1.pos hb2
    clear l1
    go_wp2_with fail
    refine (l2 _ hT2).mono ?_
    rintro e w3 ⟨rfl, hb3⟩
    have hT3 := hT2.below hT2.pos hb3
    clear l2
    go_wp2_with fail
    refine (l4 _).mono ?_
    rintro e w4 ⟨rfl, rfl⟩
    clear l4
    go_wp2_with fail
    refine (l3 _ hT3).mono ?_
    rintro e w4 ⟨rfl, hb4⟩
    go_wp2_with fail
    go_ret
    exact ⟨rfl, below_two (below_two (below_two hb1 hb2) hb3) hb4⟩
  · have hl := lp_yes q3
    have hv := vld_229 h0 (by omega) q3
    have hd : Civ.dby y + 365 + 1 - Civ.dby y = 366 := by omega
    have l3 := fun w hT => is_any y 2 29 w hT
    have l4 := fun w => lawDays_any true w
    rw [hl] at l2
    rw [hv] at l3
    clear hl q3 hs ha hb hv
    go_enter Tryd.func6, Tryd.ntmps6
    go_wp2_with fail
    refine (known_any w hT).mono ?_
    rintro e w1 ⟨rfl, hb1⟩
    have hT1 := hT.below hT.pos hb1
    go_wp2_with fail
    refine (l1 _ hT1).mono ?_
    rintro e w2 ⟨rfl, hb2⟩
    have hT2 := hT1.below hT1.pos hb2
    clear l1
    go_wp2_with fail
    refine (l2 _ hT2).mono ?_
    rintro e w3 ⟨rfl, hb3⟩
    have hT3 := hT2.below hT2.pos hb3
    clear l2
    go_wp2_with fail
    refine (l4 _).mono ?_
    rintro e w4 ⟨rfl, rfl⟩
    clear l4
    go_wp2_with fail
    refine (l3 _ hT3).mono ?_
    rintro e w4 ⟨rfl, hb4⟩
    go_wp2_with fail
    go_ret
    exact ⟨rfl, below_two (below_two (below_two hb1 hb2) hb3) hb4⟩
  · have hl := lp_yes q4
    have hv := vld_229 h0 (by omega) q4
    have hd : Civ.dby y + 365 + 1 - Civ.dby y = 366 := by omega
    have l3 := fun w hT => is_any y 2 29 w hT
    have l4 := fun w => lawDays_any true w
    rw [hl] at l2
    rw [hv] at l3
    clear hl q4 hs ha hb hv
    go_enter Tryd.func6, Tryd.ntmps6
    go_wp2_with fail
    refine (known_any w hT).mono ?_
    rintro e w1 ⟨rfl, hb1⟩
    have hT1 := hT.below hT.pos hb1
    go_wp2_with fail
    refine (l1 _ hT1).mono ?_
    rintro e w2 ⟨rfl, hb2⟩
    have hT2 := hT1.below hT1.pos hb2
    clear l1
    go_wp2_with fail
    refine (l2 _ hT2).mono ?_
    rintro e w3 ⟨rfl, hb3⟩
    have hT3 := hT2.below hT2.pos hb3
    clear l2
    go_wp2_with fail
    refine (l4 _).mono ?_
    rintro e w4 ⟨rfl, rfl⟩
    clear l4
    go_wp2_with fail
    refine (l3 _ hT3).mono ?_
    rintro e w4 ⟨rfl, hb4⟩
    go_wp2_with fail
    go_ret
    exact ⟨rfl, below_two (below_two (below_two hb1 hb2) hb3) hb4⟩
  · have hl := lp_no q4
    have hv := vld_229n q4
    have hd : Civ.dby y + 365 - Civ.dby y = 365 := by omega
    have l3 := fun w hT => is_any y 2 29 w hT
    have l4 := fun w => lawDays_any false w
    rw [hl] at l2
    rw [hv] at l3
    clear hl q4 hs ha hb hv
    go_enter Tryd.func6, Tryd.ntmps6
    go_wp2_with fail
    refine (known_any w hT).mono ?_
    rintro e w1 ⟨rfl, hb1⟩
    have hT1 := hT.below hT.pos hb1
    go_wp2_with fail
    refine (l1 _ hT1).mono ?_
    rintro e w2 ⟨rfl, hb2⟩
    have hT2 := hT1.below hT1.pos hb2
    clear l1
    go_wp2_with fail
    refine (l2 _ hT2).mono ?_
    rintro e w3 ⟨rfl, hb3⟩
    have hT3 := hT2.below hT2.pos hb3
    clear l2
    go_wp2_with fail
    refine (l4 _).mono ?_
    rintro e w4 ⟨rfl, rfl⟩
    clear l4
    go_wp2_with fail
    refine (l3 _ hT3).mono ?_
    rintro e w4 ⟨rfl, hb4⟩
    go_wp2_with fail
    go_ret
    exact ⟨rfl, below_two (below_two (below_two hb1 hb2) hb3) hb4⟩
theorem years_walk (y : Int) (w : World) (hT : LenIn w) :
    Calls Tryd.prog 6 #[.int .i64 y] w fun e w' => e = .returned (.bool true) ∧ Below w.heap.size w w' := by
  by_cases h : y < 1970 ∨ 2200 < y
  · exact years_out y w hT h
  · by_cases h' : y = 2200
    · subst h'; exact years_last w hT
    · exact years_in y w hT (by omega) (by omega)
end Go.Proofs.YtgogbbhbkckfgaaDoor
