/- The law's all, at stop 0 and at stop 1. -/
import Derived.Test.YtgienkdfodjoiaaGreatPD
namespace Go.Proofs.YtgienkdfodjoiaaGreat.Pc
open Go.RowKit Go.Shelf
variable {X : Nat → Option Value}
theorem allm_any (bt : Nat) (w : World) : Calls Tryz.prog 35 #[.pointer (some ⟨bt, 0, none⟩)] w fun e w' => e = .returned (.func (.func 81) #[] #[.pointer (some ⟨w.heap.size, 0, none⟩)]) ∧ w' = w.alloc (.cells #[.pointer (some ⟨bt, 0, none⟩)] 66) := by
  go_enter Tryz.func35, Tryz.ntmps35
  go_wp2_with fail
  go_ret
  exact ⟨rfl, rfl⟩
end Go.Proofs.YtgienkdfodjoiaaGreat.Pc
