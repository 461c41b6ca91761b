import Derived.Test.YtehlnhljpdjppaaGreatDoorZA
import Derived.Deep.RegionHeld3
import Derived.Test.YtehlnhljpdjppaaGreatDoorZC
/- Contracts of the reference's leap, Length, yearDays, Weekday. -/
namespace Go.Proofs.YtehlnhljpdjppaaGreatDoor
open Go.RowKit
set_option maxHeartbeats 400000 in
theorem rLeap_any (y : Int) (w : World) (h0 : 0 ≤ y) (h1 : y ≤ 100000) :
    Calls Tryz.prog 66 #[.int .i64 y] w fun e w' => e = .returned (.bool (Civ.lpB y)) ∧ w' = w := by
  go_enter Tryz.func66, Tryz.ntmps66
  go_wp2
  all_goals go_ret
  all_goals refine ⟨ret_bool ?_, rfl⟩
  all_goals unfold Civ.lpB
  all_goals (rw [Bool.eq_iff_iff]; simp at *; omega)
set_option maxHeartbeats 400000 in
theorem rYear_any (y : Int) (w : World) (h0 : 0 ≤ y) (h1 : y ≤ 100000) :
    Calls Tryz.prog 40 #[.int .i64 y] w fun e w' => e = .returned (.int .i64 (365 + Civ.lp y)) ∧ w' = w := by
  have hl := rLeap_any y w h0 h1
  cases hb : Civ.lpB y
  · rw [hb] at hl
    have he : Hid (365 + Civ.lp y = 365) := by show _ = _; rw [lp_no hb]; rfl
    go_enter Tryz.func40, Tryz.ntmps40
    go_wp2_with fail
    refine hl.mono ?_
    rintro e w1 ⟨rfl, rfl⟩
    go_wp2_with fail
    go_ret
    exact ⟨ret_int he.out.symm, rfl⟩
  · rw [hb] at hl
    have he : Hid (365 + Civ.lp y = 366) := by show _ = _; rw [lp_yes hb]; rfl
    go_enter Tryz.func40, Tryz.ntmps40
    go_wp2_with fail
    refine hl.mono ?_
    rintro e w1 ⟨rfl, rfl⟩
    go_wp2_with fail
    go_ret
    exact ⟨ret_int he.out.symm, rfl⟩
theorem w64 (n : Int) (h : -9223372036854775808 ≤ n) (h' : n ≤ 9223372036854775807) : wrap64 n = n := by unfold wrap64; omega
theorem tmod_7 (x : Int) : x.tmod 7 = x - 7 * x.tdiv 7 ∧ -7 < x.tmod 7 ∧ x.tmod 7 < 7 := by
  have a := Int.mul_tdiv_add_tmod x 7
  have b := Int.lt_tmod_of_pos x (b := 7) (by omega)
  have c := Int.tmod_lt_of_pos x (b := 7) (by omega)
  omega
theorem week_r (n : Int) : (wrap64 ((wrap64 (n.tmod 7 + 3)).tmod 7 + 7)).tmod 7 = Civ.wd n := by
  obtain ⟨a1, a2, a3⟩ := tmod_7 n
  rw [w64 (n.tmod 7 + 3) (by omega) (by omega)]
  obtain ⟨b1, b2, b3⟩ := tmod_7 (n.tmod 7 + 3)
  rw [w64 _ (by omega) (by omega), Int.tmod_eq_emod_of_nonneg (by omega)]
  unfold Civ.wd
  omega
set_option maxRecDepth 100000 in
set_option maxHeartbeats 1000000 in
theorem rLength_any (y m : Int) (w : World) (h0 : 0 ≤ y) (h1 : y ≤ 100000) (m0 : 1 ≤ m) (m1 : m ≤ 12) :
    Calls Tryz.prog 41 #[.int .i64 y, .int .i64 m] w fun e w' => e = .returned (.int .i64 (Civ.dim y m)) ∧ Below w.heap.size w w' := by
  have hl := fun w => rLeap_any y w h0 h1
  by_cases hm : m = 2
  · subst hm
    cases hb : Civ.lpB y
    · have he : Hid (Civ.dim y 2 = 28) := dim_2n hb
      rw [hb] at hl
      go_enter Tryz.func41, Tryz.ntmps41
      go_wp2_with fail
      refine (hl _).mono ?_
      rintro e w1 ⟨rfl, rfl⟩
      go_wp2_with fail
      go_ret
      exact ⟨ret_int he.out.symm, (Below.refl _ _).alloc (Nat.le_refl _) _⟩
    · have he : Hid (Civ.dim y 2 = 29) := dim_2 hb
      rw [hb] at hl
      go_enter Tryz.func41, Tryz.ntmps41
      go_wp2_with fail
      refine (hl _).mono ?_
      rintro e w1 ⟨rfl, rfl⟩
      go_wp2_with fail
      go_ret
      exact ⟨ret_int he.out.symm, (Below.refl _ _).alloc (Nat.le_refl _) _⟩
  · have he : Hid (Civ.dim y m = lenOf m) := dim_len (by rintro ⟨h, _⟩; exact hm h)
    have hm' : m = 1 ∨ m = 3 ∨ m = 4 ∨ m = 5 ∨ m = 6 ∨ m = 7 ∨ m = 8 ∨ m = 9 ∨ m = 10 ∨ m = 11 ∨ m = 12 := by omega
    clear hm hl
    rcases hm' with rfl | rfl | rfl | rfl | rfl | rfl | rfl | rfl | rfl | rfl | rfl
    all_goals
      go_enter Tryz.func41, Tryz.ntmps41
      go_wp2_with fail
      go_ret
      exact ⟨ret_int he.out.symm, (Below.refl _ _).alloc (Nat.le_refl _) _⟩
end Go.Proofs.YtehlnhljpdjppaaGreatDoor
/- The contract of the reference's Is, way by way. -/
namespace Go.Proofs.YtehlnhljpdjppaaGreatDoor
open Go.RowKit
set_option maxRecDepth 100000 in
set_option maxHeartbeats 4000000 in
theorem rIs_0 (y m d : Int) (w : World) (b : y < 1970) :
    Calls Tryz.prog 50 #[.agg #[.int .i64 y, .int .i64 m, .int .i64 d]] w fun e w' => e = .returned (.bool (Civ.vldB y m d)) ∧ Below w.heap.size w w' := by
  have he : Hid (Civ.vldB y m d = false) := by
    show _ = _
    unfold Civ.vldB; rw [Bool.eq_iff_iff]; simp; omega
  have g0 : decide (1970 ≤ y) = false := by simpa using b
  go_enter Tryz.func50, Tryz.ntmps50
  go_wp2_with fail
  go_quiet (fail)
  go_wp2_with fail
  go_ret
  exact ⟨ret_bool he.out.symm, below_drew ((Below.refl _ _).alloc (Nat.le_refl _) _) _⟩
set_option maxRecDepth 100000 in
set_option maxHeartbeats 4000000 in
theorem rIs_1 (y m d : Int) (w : World) (a0 : 1970 ≤ y) (b : 2200 < y) :
    Calls Tryz.prog 50 #[.agg #[.int .i64 y, .int .i64 m, .int .i64 d]] w fun e w' => e = .returned (.bool (Civ.vldB y m d)) ∧ Below w.heap.size w w' := by
  have he : Hid (Civ.vldB y m d = false) := by
    show _ = _
    unfold Civ.vldB; rw [Bool.eq_iff_iff]; simp; omega
  have g0 : decide (1970 ≤ y) = true := by simpa using a0
  have g1 : decide (y ≤ 2200) = false := by simpa using b
  go_enter Tryz.func50, Tryz.ntmps50
  go_wp2_with fail
  go_quiet (fail)
  go_wp2_with fail
  go_ret
  exact ⟨ret_bool he.out.symm, below_drew ((Below.refl _ _).alloc (Nat.le_refl _) _) _⟩
end Go.Proofs.YtehlnhljpdjppaaGreatDoor
/- The contract of the reference's Is, way by way. -/
namespace Go.Proofs.YtehlnhljpdjppaaGreatDoor
open Go.RowKit
set_option maxRecDepth 100000 in
set_option maxHeartbeats 4000000 in
theorem rIs_2 (y m d : Int) (w : World) (a0 : 1970 ≤ y) (a1 : y ≤ 2200) (b : m < 1) :
    Calls Tryz.prog 50 #[.agg #[.int .i64 y, .int .i64 m, .int .i64 d]] w fun e w' => e = .returned (.bool (Civ.vldB y m d)) ∧ Below w.heap.size w w' := by
  have he : Hid (Civ.vldB y m d = false) := by
    show _ = _
    unfold Civ.vldB; rw [Bool.eq_iff_iff]; simp; omega
  have g0 : decide (1970 ≤ y) = true := by simpa using a0
  have g1 : decide (y ≤ 2200) = true := by simpa using a1
  have g2 : decide (1 ≤ m) = false := by simpa using b
  go_enter Tryz.func50, Tryz.ntmps50
  go_wp2_with fail
  go_quiet (fail)
  go_wp2_with fail
  go_ret
  exact ⟨ret_bool he.out.symm, below_drew ((Below.refl _ _).alloc (Nat.le_refl _) _) _⟩
set_option maxRecDepth 100000 in
set_option maxHeartbeats 4000000 in
theorem rIs_3 (y m d : Int) (w : World) (a0 : 1970 ≤ y) (a1 : y ≤ 2200) (a2 : 1 ≤ m) (b : 12 < m) :
    Calls Tryz.prog 50 #[.agg #[.int .i64 y, .int .i64 m, .int .i64 d]] w fun e w' => e = .returned (.bool (Civ.vldB y m d)) ∧ Below w.heap.size w w' := by
  have he : Hid (Civ.vldB y m d = false) := by
    show _ = _
    unfold Civ.vldB; rw [Bool.eq_iff_iff]; simp; omega
  have g0 : decide (1970 ≤ y) = true := by simpa using a0
  have g1 : decide (y ≤ 2200) = true := by simpa using a1
  have g2 : decide (1 ≤ m) = true := by simpa using a2
  have g3 : decide (m ≤ 12) = false := by simpa using b
  go_enter Tryz.func50, Tryz.ntmps50
  go_wp2_with fail
  go_quiet (fail)
  go_wp2_with fail
  go_ret
  exact ⟨ret_bool he.out.symm, below_drew ((Below.refl _ _).alloc (Nat.le_refl _) _) _⟩
end Go.Proofs.YtehlnhljpdjppaaGreatDoor
/- The contract of the reference's Is, way by way. -/
namespace Go.Proofs.YtehlnhljpdjppaaGreatDoor
open Go.RowKit
set_option maxRecDepth 100000 in
set_option maxHeartbeats 4000000 in
theorem rIs_5 (y m d : Int) (w : World) (a0 : 1970 ≤ y) (a1 : y ≤ 2200) (a2 : 1 ≤ m) (a3 : m ≤ 12) (a4 : 1 ≤ d) :
    Calls Tryz.prog 50 #[.agg #[.int .i64 y, .int .i64 m, .int .i64 d]] w fun e w' => e = .returned (.bool (Civ.vldB y m d)) ∧ Below w.heap.size w w' := by
  have he : Hid (Civ.vldB y m d = decide (d ≤ Civ.dim y m)) := by
    show _ = _
    unfold Civ.vldB; rw [Bool.eq_iff_iff]; simp; omega
  have g0 : decide (1970 ≤ y) = true := by simpa using a0
  have g1 : decide (y ≤ 2200) = true := by simpa using a1
  have g2 : decide (1 ≤ m) = true := by simpa using a2
  have g3 : decide (m ≤ 12) = true := by simpa using a3
  have g4 : decide (1 ≤ d) = true := by simpa using a4
  have k0 : (w.alloc (.cells #[.int .i64 y, .int .i64 m, .int .i64 d] 26)).cell? ⟨w.heap.size, 0, none⟩ = some (.int .i64 y) := by simp
  have k1 : (w.alloc (.cells #[.int .i64 y, .int .i64 m, .int .i64 d] 26)).cell? ⟨w.heap.size, 1, none⟩ = some (.int .i64 m) := by simp
  have k2 : (w.alloc (.cells #[.int .i64 y, .int .i64 m, .int .i64 d] 26)).cell? ⟨w.heap.size, 2, none⟩ = some (.int .i64 d) := by simp
  go_enter Tryz.func50, Tryz.ntmps50
  go_wp2_with fail
  go_region_held3 (fun w' => w'.cell? ⟨w.heap.size, 0, none⟩ = some (.int .i64 y) ∧ w'.cell? ⟨w.heap.size, 1, none⟩ = some (.int .i64 m) ∧ w'.cell? ⟨w.heap.size, 2, none⟩ = some (.int .i64 d))
    (first
      | assumption
      | (go_split_ands; refine ⟨?_, ?_, ?_⟩ <;> assumption)
      | (go_split_ands; refine ⟨?_, ?_, ?_⟩ <;> (rw [hb2.cell (by simp)]; first | assumption | simp))
      | (simp only [World.cell?_drew]; assumption))
    (first
      | (go_at_call 41; refine (rLength_any _ _ _ (by omega) (by omega) (by omega) (by omega)).mono ?_; rintro e w2 ⟨rfl, hb2⟩))
  go_split_ands
  go_wp2_with fail
  go_ret
  exact ⟨ret_bool he.out.symm, ((Below.refl _ _).alloc (Nat.le_refl _) _).drew.trans (hb2.mono (by simp))⟩
end Go.Proofs.YtehlnhljpdjppaaGreatDoor
/- The contract of the reference's Is, way by way. -/
namespace Go.Proofs.YtehlnhljpdjppaaGreatDoor
open Go.RowKit
set_option maxRecDepth 100000 in
set_option maxHeartbeats 4000000 in
theorem rIs_4 (y m d : Int) (w : World) (a0 : 1970 ≤ y) (a1 : y ≤ 2200) (a2 : 1 ≤ m) (a3 : m ≤ 12) (b : d < 1) :
    Calls Tryz.prog 50 #[.agg #[.int .i64 y, .int .i64 m, .int .i64 d]] w fun e w' => e = .returned (.bool (Civ.vldB y m d)) ∧ Below w.heap.size w w' := by
  have he : Hid (Civ.vldB y m d = false) := by
    show _ = _
    unfold Civ.vldB; rw [Bool.eq_iff_iff]; simp; omega
  have g0 : decide (1970 ≤ y) = true := by simpa using a0
  have g1 : decide (y ≤ 2200) = true := by simpa using a1
  have g2 : decide (1 ≤ m) = true := by simpa using a2
  have g3 : decide (m ≤ 12) = true := by simpa using a3
  have g4 : decide (1 ≤ d) = false := by simpa using b
  go_enter Tryz.func50, Tryz.ntmps50
  go_wp2_with fail
  go_quiet (fail)
  go_wp2_with fail
  go_ret
  exact ⟨ret_bool he.out.symm, below_drew ((Below.refl _ _).alloc (Nat.le_refl _) _) _⟩
end Go.Proofs.YtehlnhljpdjppaaGreatDoor
/- The contract of the reference's Is. -/
namespace Go.Proofs.YtehlnhljpdjppaaGreatDoor
open Go.RowKit
theorem hide4 {p : Prop} (h : p) : Hid p := h
theorem rIs_any (y m d : Int) (w : World) :
    Calls Tryz.prog 50 #[.agg #[.int .i64 y, .int .i64 m, .int .i64 d]] w fun e w' => e = .returned (.bool (Civ.vldB y m d)) ∧ Below w.heap.size w w' := by
  by_cases h0 : 1970 ≤ y
  · by_cases h1 : y ≤ 2200
    · by_cases h2 : 1 ≤ m
      · by_cases h3 : m ≤ 12
        · by_cases h4 : 1 ≤ d
          · exact rIs_5 y m d w h0 h1 h2 h3 h4
          · exact rIs_4 y m d w h0 h1 h2 h3 (by omega)
        · exact rIs_3 y m d w h0 h1 h2 (by omega)
      · exact rIs_2 y m d w h0 h1 (by omega)
    · exact rIs_1 y m d w h0 (by omega)
  · exact rIs_0 y m d w (by omega)
end Go.Proofs.YtehlnhljpdjppaaGreatDoor
/- The contract of the reference's Days. -/
namespace Go.Proofs.YtehlnhljpdjppaaGreatDoor
open Go.RowKit
set_option maxRecDepth 100000 in
set_option maxHeartbeats 2000000 in
theorem rDays_yes (y m d : Int) (w : World) (hv : Civ.vldB y m d = true) :
    Calls Tryz.prog 28 #[.agg #[.int .i64 y, .int .i64 m, .int .i64 d]] w fun e w' => e = .returned (.tuple #[.int .i64 (Civ.num y m d), .int .i64 0]) ∧ Below w.heap.size w w' := by
  obtain ⟨v0, v1, v2, v3, v4, v5⟩ := Civ.vldB_iff.1 hv
  have v6 := (Civ.dim_bd y m).2
  have hI := fun w => rIs_any y m d w
  rw [hv] at hI
  have b70 : Civ.dby 1970 = 0 := Civ.dby_1970
  have HN : Hid (Civ.num y m d = d - 1 + Civ.dby y + Civ.cum y (m - 1).toNat) := by show _ = _; unfold Civ.num; omega
  go_enter Tryz.func28, Tryz.ntmps28
  go_wp2_with fail
  refine (hI _).mono ?_
  rintro e w1 ⟨rfl, hb1⟩
  have hz1 := hb1.size
  rw [World.size_alloc] at hz1
  have k0 : w1.cell? ⟨w.heap.size, 0, none⟩ = some (.int .i64 y) := by rw [hb1.cell (by simp)]; simp
  have k1 : w1.cell? ⟨w.heap.size, 1, none⟩ = some (.int .i64 m) := by rw [hb1.cell (by simp)]; simp
  have k2 : w1.cell? ⟨w.heap.size, 2, none⟩ = some (.int .i64 d) := by rw [hb1.cell (by simp)]; simp
  have hB1 : Below w.heap.size w w1 := ((Below.refl _ w).alloc (Nat.le_refl _) _).trans (hb1.mono (by simp))
  clear hI hb1
  go_wp2_with fail
  go_loop [4, 5] (fun a b => ∃ z : Int, 1970 ≤ z ∧ z ≤ y ∧ b = .int .i64 z ∧ a = .int .i64 (d - 1 + Civ.dby z)) (fun _ b => (y - intOf b).toNat)
  case atStart => exact ⟨1970, by omega, by omega, rfl, by rw [b70]; simp⟩
  case round =>
    obtain ⟨z, z0, z1, rfl, rfl⟩ := hrel
    have zb := Civ.dby_bd z0 (by omega)
    have zs := hide4 (Civ.dby_succ z)
    have zl := Civ.lp_01 z
    by_cases hlt : z < y
    · go_wp2_with fail
      refine (rYear_any z _ (by omega) (by omega)).mono ?_
      rintro e w2 ⟨rfl, rfl⟩
      go_wp2_with fail
      exact ⟨⟨z + 1, by omega, by omega, rfl, by rw [zs.out]; go_num⟩, by simp [intOf]; omega⟩
    · obtain rfl : z = y := by omega
      clear zs hlt
      go_wp2_with fail
      go_loopw [4, 6] (fun a b wr => ∃ k : Nat, (k : Int) + 1 ≤ m ∧ b = .int .i64 ((k : Int) + 1) ∧ a = .int .i64 (d - 1 + Civ.dby z + Civ.cum z k) ∧ Below w1.heap.size w1 wr) (fun _ b _ => (m - intOf b).toNat)
      case atStart => exact ⟨0, by omega, rfl, by simp [Civ.cum], Below.refl _ _⟩
      case round =>
        obtain ⟨k, k1', rfl, rfl, hbr⟩ := hrel
        have cb := Civ.cum_bd z (k := k) (by omega)
        have j0 := (hbr.cell (p := ⟨w.heap.size, 0, none⟩) (by simp; omega)).trans k0
        have j1 := (hbr.cell (p := ⟨w.heap.size, 1, none⟩) (by simp; omega)).trans k1
        have db := Civ.dim_bd z ((k : Int) + 1)
        have cs := hide4 (Civ.cum_succ z k)
        by_cases hlt : (k : Int) + 1 < m
        · go_wp2_with fail
          refine (rLength_any z ((k : Int) + 1) _ (by omega) (by omega) (by omega) (by omega)).mono ?_
          rintro e w3 ⟨rfl, hb3⟩
          go_wp2_with fail
          exact ⟨⟨k + 1, by omega, by go_num, by rw [cs.out]; go_num, hbr.trans (hb3.mono hbr.size)⟩, by simp [intOf]; omega⟩
        · go_wp2_with fail
          go_ret2
          refine ⟨?_, hB1.trans (hbr.mono hB1.size)⟩
          rw [HN.out, show (m - 1).toNat = k by omega]
          rfl
set_option maxRecDepth 100000 in
set_option maxHeartbeats 1000000 in
theorem rDays_no (y m d : Int) (w : World) (hv : Civ.vldB y m d = false) :
    Calls Tryz.prog 28 #[.agg #[.int .i64 y, .int .i64 m, .int .i64 d]] w fun e w' => e = .returned (.tuple #[.int .i64 0, .int .i64 20]) ∧ Below w.heap.size w w' := by
  have hI := fun w => rIs_any y m d w
  rw [hv] at hI
  go_enter Tryz.func28, Tryz.ntmps28
  go_wp2_with fail
  refine (hI _).mono ?_
  rintro e w1 ⟨rfl, hb1⟩
  go_wp2_with fail
  go_ret2
  exact ⟨rfl, ((Below.refl _ w).alloc (Nat.le_refl _) _).trans (hb1.mono (by simp))⟩
end Go.Proofs.YtehlnhljpdjppaaGreatDoor
/- Contracts of the reference's IsMoment, Unix and Moment. -/
namespace Go.Proofs.YtehlnhljpdjppaaGreatDoor
open Go.RowKit
set_option maxRecDepth 100000 in
set_option maxHeartbeats 2000000 in
theorem rMom_any (y m d h mi s : Int) (w : World) :
    Calls Tryz.prog 27 #[momV y m d h mi s] w fun e w' => e = .returned (.bool (Civ.vldB y m d && Civ.timB h mi s)) ∧ Below w.heap.size w w' := by
  have hI := fun w => rIs_any y m d w
  cases hv : Civ.vldB y m d
  · rw [hv] at hI
    go_enter Tryz.func27, Tryz.ntmps27
    go_wp2_with fail
    refine (hI _).mono ?_
    rintro e w1 ⟨rfl, hb1⟩
    go_wp2_with fail
    go_ret
    exact ⟨rfl, ((Below.refl _ w).alloc (Nat.le_refl _) _).trans (hb1.mono (by simp))⟩
  · rw [hv] at hI
    go_enter Tryz.func27, Tryz.ntmps27
    go_wp2_with fail
    refine (hI _).mono ?_
    rintro e w1 ⟨rfl, hb1⟩
    have k3 : w1.cell? ⟨w.heap.size, 3, none⟩ = some (.int .i64 h) := by rw [hb1.cell (by simp)]; simp
    have k4 : w1.cell? ⟨w.heap.size, 4, none⟩ = some (.int .i64 mi) := by rw [hb1.cell (by simp)]; simp
    have k5 : w1.cell? ⟨w.heap.size, 5, none⟩ = some (.int .i64 s) := by rw [hb1.cell (by simp)]; simp
    have hB : Below w.heap.size w w1 := ((Below.refl _ w).alloc (Nat.le_refl _) _).trans (hb1.mono (by simp))
    clear hb1 hI hv
    go_wp2
    all_goals go_ret
    all_goals refine ⟨ret_bool ?_, hB⟩
    all_goals unfold Civ.timB
    all_goals clear k3 k4 k5 hB
    all_goals (rw [Bool.eq_iff_iff]; simp at *; omega)
set_option maxRecDepth 100000 in
set_option maxHeartbeats 1000000 in
theorem rUnix_yes (y m d h mi s : Int) (w : World) (hv : Civ.vldB y m d = true) (ht : Civ.timB h mi s = true) :
    Calls Tryz.prog 11 #[momV y m d h mi s] w fun e w' => e = .returned (.tuple #[.int .i64 (Civ.sec y m d h mi s), .int .i64 0]) ∧ Below w.heap.size w w' := by
  obtain ⟨n0, n1, _, _⟩ := Civ.num_bd hv
  obtain ⟨a0, a1, a2, a3, a4, a5⟩ := Civ.timB_iff.1 ht
  have hsec : Hid (Civ.sec y m d h mi s = Civ.num y m d * 86400 + (h * 3600 + mi * 60 + s)) := rfl
  have hI := fun w => rMom_any y m d h mi s w
  rw [hv, ht] at hI
  have hD := fun w => rDays_yes y m d w hv
  obtain ⟨n, hn⟩ : ∃ n, Civ.num y m d = n := ⟨_, rfl⟩
  rw [hn] at hD hsec n0 n1
  clear hn hv ht
  go_enter Tryz.func11, Tryz.ntmps11
  go_wp2_with fail
  refine (hI _).mono ?_
  rintro e w1 ⟨rfl, hb1⟩
  have hz1 := hb1.size
  rw [World.size_alloc] at hz1
  have k0 : w1.cell? ⟨w.heap.size, 0, none⟩ = some (.int .i64 y) := by rw [hb1.cell (by simp)]; simp
  have k1 : w1.cell? ⟨w.heap.size, 1, none⟩ = some (.int .i64 m) := by rw [hb1.cell (by simp)]; simp
  have k2 : w1.cell? ⟨w.heap.size, 2, none⟩ = some (.int .i64 d) := by rw [hb1.cell (by simp)]; simp
  have k3 : w1.cell? ⟨w.heap.size, 3, none⟩ = some (.int .i64 h) := by rw [hb1.cell (by simp)]; simp
  have k4 : w1.cell? ⟨w.heap.size, 4, none⟩ = some (.int .i64 mi) := by rw [hb1.cell (by simp)]; simp
  have k5 : w1.cell? ⟨w.heap.size, 5, none⟩ = some (.int .i64 s) := by rw [hb1.cell (by simp)]; simp
  go_wp2_with fail
  refine (hD _).mono ?_
  rintro e w2 ⟨rfl, hb2⟩
  have q3 : w2.cell? ⟨w.heap.size, 3, none⟩ = some (.int .i64 h) := by rw [hb2.cell (by simp; omega)]; exact k3
  have q4 : w2.cell? ⟨w.heap.size, 4, none⟩ = some (.int .i64 mi) := by rw [hb2.cell (by simp; omega)]; exact k4
  have q5 : w2.cell? ⟨w.heap.size, 5, none⟩ = some (.int .i64 s) := by rw [hb2.cell (by simp; omega)]; exact k5
  go_wp2_with fail
  go_ret2
  refine ⟨?_, ((Below.refl _ w).alloc (Nat.le_refl _) _).trans ((hb1.mono (by simp)).trans (hb2.mono (by omega)))⟩
  rw [hsec.out]
  rfl
end Go.Proofs.YtehlnhljpdjppaaGreatDoor
