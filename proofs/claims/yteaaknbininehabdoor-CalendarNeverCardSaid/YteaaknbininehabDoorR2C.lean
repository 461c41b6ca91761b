/- The contract of the reference's Is, way by way. -/
import Derived.Test.YteaaknbininehabDoorR1
import Derived.Test.YteaaknbininehabDoorC3
import Derived.Deep.RegionHeld3
namespace Go.Proofs.YteaaknbininehabDoor
open Go.RowKit
set_option maxRecDepth 100000 in
set_option maxHeartbeats 4000000 in
theorem rIs_5 (y m d : Int) (w : World) (a0 : 1970 ≤ y) (a1 : y ≤ 2200) (a2 : 1 ≤ m) (a3 : m ≤ 12) (a4 : 1 ≤ d) :
    Calls Tryd.prog 44 #[.agg #[.int .i64 y, .int .i64 m, .int .i64 d]] w fun e w' => e = .returned (.bool (Civ.vldB y m d)) ∧ Below w.heap.size w w' := by
  have he : Hid (Civ.vldB y m d = decide (d ≤ Civ.dim y m)) := by
    show _ = _
    unfold Civ.vldB; rw [Bool.eq_iff_iff]; simp; omega
  have g0 : decide (1970 ≤ y) = true := by simpa using a0
  have g1 : decide (y ≤ 2200) = true := by simpa using a1
  have g2 : decide (1 ≤ m) = true := by simpa using a2
  have g3 : decide (m ≤ 12) = true := by simpa using a3
  have g4 : decide (1 ≤ d) = true := by simpa using a4
  have k0 : (w.alloc (.cells #[.int .i64 y, .int .i64 m, .int .i64 d] 35)).cell? ⟨w.heap.size, 0, none⟩ = some (.int .i64 y) := by simp
  have k1 : (w.alloc (.cells #[.int .i64 y, .int .i64 m, .int .i64 d] 35)).cell? ⟨w.heap.size, 1, none⟩ = some (.int .i64 m) := by simp
  have k2 : (w.alloc (.cells #[.int .i64 y, .int .i64 m, .int .i64 d] 35)).cell? ⟨w.heap.size, 2, none⟩ = some (.int .i64 d) := by simp
  go_enter Tryd.func44, Tryd.ntmps44
  go_wp2_with fail
  go_region_held3 (fun w' => w'.cell? ⟨w.heap.size, 0, none⟩ = some (.int .i64 y) ∧ w'.cell? ⟨w.heap.size, 1, none⟩ = some (.int .i64 m) ∧ w'.cell? ⟨w.heap.size, 2, none⟩ = some (.int .i64 d))
    (first
      | assumption
      | (go_split_ands; refine ⟨?_, ?_, ?_⟩ <;> assumption)
      | (go_split_ands; refine ⟨?_, ?_, ?_⟩ <;> (rw [hb2.cell (by simp)]; first | assumption | simp))
      | (simp only [World.cell?_drew]; assumption))
    (first
      | (go_at_call 46; refine (rLength_any _ _ _ (by omega) (by omega) (by omega) (by omega)).mono ?_; rintro e w2 ⟨rfl, hb2⟩))
  go_split_ands
  go_wp2_with fail
  go_ret
  exact ⟨ret_bool he.out.symm, ((Below.refl _ _).alloc (Nat.le_refl _) _).drew.trans (hb2.mono (by simp))⟩
end Go.Proofs.YteaaknbininehabDoor
