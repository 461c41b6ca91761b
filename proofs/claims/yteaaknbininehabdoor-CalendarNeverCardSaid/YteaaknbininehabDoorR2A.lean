/- The contract of the reference's Is, way by way. -/
import Derived.Test.YteaaknbininehabDoorR1
import Derived.Test.YteaaknbininehabDoorC3
import Derived.Deep.RegionHeld3
namespace Go.Proofs.YteaaknbininehabDoor
open Go.RowKit
set_option maxRecDepth 100000 in
set_option maxHeartbeats 4000000 in
theorem rIs_0 (y m d : Int) (w : World) (b : y < 1970) :
    Calls Tryd.prog 44 #[.agg #[.int .i64 y, .int .i64 m, .int .i64 d]] w fun e w' => e = .returned (.bool (Civ.vldB y m d)) ∧ Below w.heap.size w w' := by
  have he : Hid (Civ.vldB y m d = false) := by
    show _ = _
    unfold Civ.vldB; rw [Bool.eq_iff_iff]; simp; omega
  have g0 : decide (1970 ≤ y) = false := by simpa using b
  go_enter Tryd.func44, Tryd.ntmps44
  go_wp2_with fail
  go_quiet (fail)
  go_wp2_with fail
  go_ret
  exact ⟨ret_bool he.out.symm, below_drew ((Below.refl _ _).alloc (Nat.le_refl _) _) _⟩
set_option maxRecDepth 100000 in
set_option maxHeartbeats 4000000 in
theorem rIs_1 (y m d : Int) (w : World) (a0 : 1970 ≤ y) (b : 2200 < y) :
    Calls Tryd.prog 44 #[.agg #[.int .i64 y, .int .i64 m, .int .i64 d]] w fun e w' => e = .returned (.bool (Civ.vldB y m d)) ∧ Below w.heap.size w w' := by
  have he : Hid (Civ.vldB y m d = false) := by
    show _ = _
    unfold Civ.vldB; rw [Bool.eq_iff_iff]; simp; omega
  have g0 : decide (1970 ≤ y) = true := by simpa using a0
  have g1 : decide (y ≤ 2200) = false := by simpa using b
  go_enter Tryd.func44, Tryd.ntmps44
  go_wp2_with fail
  go_quiet (fail)
  go_wp2_with fail
  go_ret
  exact ⟨ret_bool he.out.symm, below_drew ((Below.refl _ _).alloc (Nat.le_refl _) _) _⟩
end Go.Proofs.YteaaknbininehabDoor
