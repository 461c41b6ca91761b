/- An element of an array of six cells. -/
import Derived.Test.YteaaknbininehabDoorS1
namespace Go.Proofs.YteaaknbininehabDoor
open Go.RowKit
theorem und6 : Tryd.prog.underlying 55 = some (.array 6 24) := by kernel_rfl
theorem und6i : Tryd.prog.underlying 57 = some (.array 6 3) := by kernel_rfl
theorem idx6 {w : World} (cs : Array Value) (i : Int) (h0 : 0 ≤ i) (h1 : i < 6) (hs : cs.size = 6) : (Instr.index 55 (.agg cs) (.int .i64 i)).run Tryd.prog w = .ok (cs.getD i.toNat undef) w := by
  have hz : Tryd.t24.size = 1 := by kernel_rfl
  have hl : i.toNat < cs.size := by omega
  simp [Instr.index, run_underlying und6, asIntOf, h0, h1, go_sem, part, sizeOf]
  rw [hz, Nat.mul_one, Array.getElem?_eq_getElem hl]
  simp [go_sem]
end Go.Proofs.YteaaknbininehabDoor
