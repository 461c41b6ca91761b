/- New rows of relations. -/
import Derived.Test.YtedgnigogkmgkaaGreatDoorGRp
namespace Go.Proofs.YtedgnigogkmgkaaGreatDoor.Rw
open Go.RowKit Go.Shelf Go.Lib
theorem RS.fresh (A : World) (l : List Rr) (t : TypeId) (hl : l.length ≤ 1000) : RS (A.alloc (.cells (flat l).toArray t)) A.heap.size 0 l.length l := by
  have hz : (flat l).toArray.size = l.length * 3 := by rw [List.size_toArray, flat_len]
  refine ⟨Nat.le_refl _, ⟨by simp, by unfold maxLen; omega, fun j hj => ?_, fun j _ => ?_⟩, fun j u hj => ?_⟩
  · rw [Nat.zero_add, cell_at (v := (flat l).toArray[j]'(by omega)) rfl (Array.getElem?_eq_getElem (by omega))]; rfl
  · exact World.frozen?_alloc_new A _ _ _
  · rw [Nat.zero_add]
    exact cell_at rfl (by rw [List.getElem?_toArray]; exact hj)
end Go.Proofs.YtedgnigogkmgkaaGreatDoor.Rw
