/- The contract of the reference's Days. -/
import Derived.Test.YteaaknbininehabDoorR2
namespace Go.Proofs.YteaaknbininehabDoor
open Go.RowKit
set_option maxRecDepth 100000 in
set_option maxHeartbeats 2000000 in
theorem rDays_yes (y m d : Int) (w : World) (hv : Civ.vldB y m d = true) :
    Calls Tryd.prog 24 #[.agg #[.int .i64 y, .int .i64 m, .int .i64 d]] w fun e w' => e = .returned (.tuple #[.int .i64 (Civ.num y m d), .int .i64 0]) ∧ Below w.heap.size w w' := by
  obtain ⟨v0, v1, v2, v3, v4, v5⟩ := Civ.vldB_iff.1 hv
  have v6 := (Civ.dim_bd y m).2
  have hI := fun w => rIs_any y m d w
  rw [hv] at hI
  have b70 : Civ.dby 1970 = 0 := Civ.dby_1970
  have HN : Hid (Civ.num y m d = d - 1 + Civ.dby y + Civ.cum y (m - 1).toNat) := by show _ = _; unfold Civ.num; omega
  go_enter Tryd.func24, Tryd.ntmps24
  go_wp2_with fail
  refine (hI _).mono ?_
  rintro e w1 ⟨rfl, hb1⟩
  have hz1 := hb1.size
  rw [World.size_alloc] at hz1
  have k0 : w1.cell? ⟨w.heap.size, 0, none⟩ = some (.int .i64 y) := by rw [hb1.cell (by simp)]; simp
  have k1 : w1.cell? ⟨w.heap.size, 1, none⟩ = some (.int .i64 m) := by rw [hb1.cell (by simp)]; simp
  have k2 : w1.cell? ⟨w.heap.size, 2, none⟩ = some (.int .i64 d) := by rw [hb1.cell (by simp)]; simp
  have hB1 : Below w.heap.size w w1 := ((Below.refl _ w).alloc (Nat.le_refl _) _).trans (hb1.mono (by simp))
  clear hI hb1
  go_wp2_with fail
  go_loop [4, 5] (fun a b => ∃ z : Int, 1970 ≤ z ∧ z ≤ y ∧ b = .int .i64 z ∧ a = .int .i64 (d - 1 + Civ.dby z)) (fun _ b => (y - intOf b).toNat)
  case atStart => exact ⟨1970, by omega, by omega, rfl, by rw [b70]; simp⟩
  case round =>
    obtain ⟨z, z0, z1, rfl, rfl⟩ := hrel
    have zb := Civ.dby_bd z0 (by omega)
    have zs := hide4 (Civ.dby_succ z)
    have zl := Civ.lp_01 z
    by_cases hlt : z < y
    · go_wp2_with fail
      refine (rYear_any z _ (by omega) (by omega)).mono ?_
      rintro e w2 ⟨rfl, rfl⟩
      go_wp2_with fail
      exact ⟨⟨z + 1, by omega, by omega, rfl, by rw [zs.out]; go_num⟩, by simp [intOf]; omega⟩
    · obtain rfl : z = y := by omega
      clear zs hlt
      go_wp2_with fail
      go_loopw [4, 6] (fun a b wr => ∃ k : Nat, (k : Int) + 1 ≤ m ∧ b = .int .i64 ((k : Int) + 1) ∧ a = .int .i64 (d - 1 + Civ.dby z + Civ.cum z k) ∧ Below w1.heap.size w1 wr) (fun _ b _ => (m - intOf b).toNat)
      case atStart => exact ⟨0, by omega, rfl, by simp [Civ.cum], Below.refl _ _⟩
      case round =>
        obtain ⟨k, k1', rfl, rfl, hbr⟩ := hrel
        have cb := Civ.cum_bd z (k := k) (by omega)
        have j0 := (hbr.cell (p := ⟨w.heap.size, 0, none⟩) (by simp; omega)).trans k0
        have j1 := (hbr.cell (p := ⟨w.heap.size, 1, none⟩) (by simp; omega)).trans k1
        have db := Civ.dim_bd z ((k : Int) + 1)
        have cs := hide4 (Civ.cum_succ z k)
        by_cases hlt : (k : Int) + 1 < m
        · go_wp2_with fail
          refine (rLength_any z ((k : Int) + 1) _ (by omega) (by omega) (by omega) (by omega)).mono ?_
          rintro e w3 ⟨rfl, hb3⟩
          go_wp2_with fail
          exact ⟨⟨k + 1, by omega, by go_num, by rw [cs.out]; go_num, hbr.trans (hb3.mono hbr.size)⟩, by simp [intOf]; omega⟩
        · go_wp2_with fail
          go_ret2
          refine ⟨?_, hB1.trans (hbr.mono hB1.size)⟩
          rw [HN.out, show (m - 1).toNat = k by omega]
          rfl
set_option maxRecDepth 100000 in
set_option maxHeartbeats 1000000 in
theorem rDays_no (y m d : Int) (w : World) (hv : Civ.vldB y m d = false) :
    Calls Tryd.prog 24 #[.agg #[.int .i64 y, .int .i64 m, .int .i64 d]] w fun e w' => e = .returned (.tuple #[.int .i64 0, .int .i64 20]) ∧ Below w.heap.size w w' := by
  have hI := fun w => rIs_any y m d w
  rw [hv] at hI
  go_enter Tryd.func24, Tryd.ntmps24
  go_wp2_with fail
  refine (hI _).mono ?_
  rintro e w1 ⟨rfl, hb1⟩
  go_wp2_with fail
  go_ret2
  exact ⟨rfl, ((Below.refl _ w).alloc (Nat.le_refl _) _).trans (hb1.mono (by simp))⟩
end Go.Proofs.YteaaknbininehabDoor
