/- Contracts of the reference's IsMoment, Unix and Moment. -/
import Derived.Test.YteaaknbininehabDoorR3
import Derived.Test.YteaaknbininehabDoorU1
namespace Go.Proofs.YteaaknbininehabDoor
open Go.RowKit
set_option maxRecDepth 100000 in
set_option maxHeartbeats 2000000 in
theorem rMom_any (y m d h mi s : Int) (w : World) :
    Calls Tryd.prog 23 #[momV y m d h mi s] w fun e w' => e = .returned (.bool (Civ.vldB y m d && Civ.timB h mi s)) ∧ Below w.heap.size w w' := by
  have hI := fun w => rIs_any y m d w
  cases hv : Civ.vldB y m d
  · rw [hv] at hI
    go_enter Tryd.func23, Tryd.ntmps23
    go_wp2_with fail
    refine (hI _).mono ?_
    rintro e w1 ⟨rfl, hb1⟩
    go_wp2_with fail
    go_ret
    exact ⟨rfl, ((Below.refl _ w).alloc (Nat.le_refl _) _).trans (hb1.mono (by simp))⟩
  · rw [hv] at hI
    go_enter Tryd.func23, Tryd.ntmps23
    go_wp2_with fail
    refine (hI _).mono ?_
    rintro e w1 ⟨rfl, hb1⟩
    have k3 : w1.cell? ⟨w.heap.size, 3, none⟩ = some (.int .i64 h) := by rw [hb1.cell (by simp)]; simp
    have k4 : w1.cell? ⟨w.heap.size, 4, none⟩ = some (.int .i64 mi) := by rw [hb1.cell (by simp)]; simp
    have k5 : w1.cell? ⟨w.heap.size, 5, none⟩ = some (.int .i64 s) := by rw [hb1.cell (by simp)]; simp
    have hB : Below w.heap.size w w1 := ((Below.refl _ w).alloc (Nat.le_refl _) _).trans (hb1.mono (by simp))
    clear hb1 hI hv
    go_wp2
    all_goals go_ret
    all_goals refine ⟨ret_bool ?_, hB⟩
    all_goals unfold Civ.timB
    all_goals clear k3 k4 k5 hB
    all_goals (rw [Bool.eq_iff_iff]; simp at *; omega)
set_option maxRecDepth 100000 in
set_option maxHeartbeats 1000000 in
theorem rUnix_yes (y m d h mi s : Int) (w : World) (hv : Civ.vldB y m d = true) (ht : Civ.timB h mi s = true) :
    Calls Tryd.prog 11 #[momV y m d h mi s] w fun e w' => e = .returned (.tuple #[.int .i64 (Civ.sec y m d h mi s), .int .i64 0]) ∧ Below w.heap.size w w' := by
  obtain ⟨n0, n1, _, _⟩ := Civ.num_bd hv
  obtain ⟨a0, a1, a2, a3, a4, a5⟩ := Civ.timB_iff.1 ht
  have hsec : Hid (Civ.sec y m d h mi s = Civ.num y m d * 86400 + (h * 3600 + mi * 60 + s)) := rfl
  have hI := fun w => rMom_any y m d h mi s w
  rw [hv, ht] at hI
  have hD := fun w => rDays_yes y m d w hv
  obtain ⟨n, hn⟩ : ∃ n, Civ.num y m d = n := ⟨_, rfl⟩
  rw [hn] at hD hsec n0 n1
  clear hn hv ht
  go_enter Tryd.func11, Tryd.ntmps11
  go_wp2_with fail
  refine (hI _).mono ?_
  rintro e w1 ⟨rfl, hb1⟩
  have hz1 := hb1.size
  rw [World.size_alloc] at hz1
  have k0 : w1.cell? ⟨w.heap.size, 0, none⟩ = some (.int .i64 y) := by rw [hb1.cell (by simp)]; simp
  have k1 : w1.cell? ⟨w.heap.size, 1, none⟩ = some (.int .i64 m) := by rw [hb1.cell (by simp)]; simp
  have k2 : w1.cell? ⟨w.heap.size, 2, none⟩ = some (.int .i64 d) := by rw [hb1.cell (by simp)]; simp
  have k3 : w1.cell? ⟨w.heap.size, 3, none⟩ = some (.int .i64 h) := by rw [hb1.cell (by simp)]; simp
  have k4 : w1.cell? ⟨w.heap.size, 4, none⟩ = some (.int .i64 mi) := by rw [hb1.cell (by simp)]; simp
  have k5 : w1.cell? ⟨w.heap.size, 5, none⟩ = some (.int .i64 s) := by rw [hb1.cell (by simp)]; simp
  go_wp2_with fail
  refine (hD _).mono ?_
  rintro e w2 ⟨rfl, hb2⟩
  have q3 : w2.cell? ⟨w.heap.size, 3, none⟩ = some (.int .i64 h) := by rw [hb2.cell (by simp; omega)]; exact k3
  have q4 : w2.cell? ⟨w.heap.size, 4, none⟩ = some (.int .i64 mi) := by rw [hb2.cell (by simp; omega)]; exact k4
  have q5 : w2.cell? ⟨w.heap.size, 5, none⟩ = some (.int .i64 s) := by rw [hb2.cell (by simp; omega)]; exact k5
  go_wp2_with fail
  go_ret2
  refine ⟨?_, ((Below.refl _ w).alloc (Nat.le_refl _) _).trans ((hb1.mono (by simp)).trans (hb2.mono (by omega)))⟩
  rw [hsec.out]
  rfl
end Go.Proofs.YteaaknbininehabDoor
