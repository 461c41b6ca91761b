/- A slice of int64 numbers that came in, nil or not. -/
import Derived.Test.YtlnfapkpehhafaaDoorW8
import Derived.OpenShut
namespace Go.Proofs.YtlnfapkpehhafaaDoor
open Go.RowKit
def IsRow64 (w : World) (a : Option Addr) (len cap : Nat) (zs : List Int) : Prop :=
  (a = none ∧ len = 0) ∨
  ∃ x, a = some x ∧ len ≤ cap ∧ cap ≤ maxLen ∧ zs.length = cap ∧ ∀ i, i < zs.length → w.cell? (x.add i) = some (.int .i64 (zs.getD i 0))
theorem row64 {w : World} {a : Option Addr} {len cap : Nat} {zs : List Int} (h : IsRow64 w a len cap zs) :
    ∃ (b o : Nat) (f : Nat → Int), (0 < len → a = some ⟨b, o, none⟩) ∧ (∀ j, j < len → w.cell? ⟨b, o + j, none⟩ = some (.int .i64 (f j))) ∧ len ≤ maxLen := by
  rcases h with ⟨_, h0⟩ | ⟨x, rfl, hlc, hm, hz, hcell⟩
  · exact ⟨0, 0, fun _ => 0, fun h => by omega, fun j hj => by omega, by rw [h0]; exact Nat.zero_le _⟩
  · by_cases hl : 0 < len
    · obtain ⟨b, o, rfl, hc⟩ := ints_at hcell (by omega)
      exact ⟨b, o, fun j => zs.getD j 0, fun _ => rfl, fun j hj => hc j (by omega), Nat.le_trans hlc hm⟩
    · exact ⟨0, 0, fun _ => 0, fun h => absurd h hl, fun j hj => by omega, Nat.le_trans hlc hm⟩
end Go.Proofs.YtlnfapkpehhafaaDoor
