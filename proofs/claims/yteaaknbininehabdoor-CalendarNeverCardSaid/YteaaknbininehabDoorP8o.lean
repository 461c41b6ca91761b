/- A row of three. -/
import Derived.Test.YteaaknbininehabDoorP8a
namespace Go.Proofs.YteaaknbininehabDoor
open Go.RowKit
theorem infoS : (Tryd.prog.info? 9).map (fun i => (i.zero, i.size, i.bytes)) = some (some (.string ⟨#[]⟩), 1, 16) := by kernel_rfl
theorem own3 {w : World} {base : Nat} {t : TypeId} {v : Value} {xs : List Value} (h : w.ownsRow base t 1 v (2 + 1) xs) : ∃ g cap, v = .slice (some ⟨g, 0, none⟩) 3 cap := by
  rcases h.2 with ⟨_, h0⟩ | ⟨g, cap, cur, rfl, _⟩
  · omega
  · exact ⟨g, cap, rfl⟩
end Go.Proofs.YteaaknbininehabDoor
