/- Steps of a walk over whole units. -/
import Derived.Test.YtcfclknfnadgcaaDoorGA2
namespace Go.Proofs.YtcfclknfnadgcaaDoor
open Go.RowKit Go.Shelf Go.Lib
/-- What is stored over a new unit. -/
theorem fresh_store {W : World} {vs : Array Value} (hs : vs.size = 33) (h1 : ∀ (p : Nat) (v : Value), vs[p]? = some v → v.oneCell' = true) (Z : Array Value) (t : TypeId) (hZ : Z.size = 33) :
    ∃ X, (storeCells ⟨W.heap.size, 0, none⟩ vs.toList).run Tryd.prog (W.alloc (.cells Z t)) = .ok () X ∧ Ub W.heap.size vs X ∧ Below W.heap.size W X := by
  obtain ⟨X, q1, q2, q3⟩ := Ub.store (P := Tryd.prog) (n := W.heap.size) (w := W.alloc (.cells Z t)) hs h1 (fun p hp => by
    rw [cell_at (v := Z[p]'(by omega)) rfl (Array.getElem?_eq_getElem (by omega))]; rfl) (fun p => World.frozen?_alloc_new W _ _ p)
  exact ⟨X, q1, q2, ((Below.refl _ _).alloc (Nat.le_refl _) _).trans (q3.toBelow (n := W.heap.size) (by simp) (fun k hk e => by omega))⟩
end Go.Proofs.YtcfclknfnadgcaaDoor
