/- A slice of int64 that came in, nil or not. -/
import Derived.Test.YtgienkdfodjoiaaGreatZ0
import Derived.OpenShut
namespace Go.Proofs.YtgienkdfodjoiaaGreat
open Go.RowKit
def IsRowJ (w : World) (a : Option Addr) (len cap : Nat) (zs : List Int) : Prop :=
  (a = none ∧ len = 0) ∨
  ∃ x, a = some x ∧ len ≤ cap ∧ cap ≤ maxLen ∧ zs.length = cap ∧ (∀ i, i < zs.length → w.cell? (x.add i) = some (.int .i64 (zs.getD i 0))) ∧ ∀ z ∈ zs, (Lit.int .i64 z).wf = true
theorem rowJ {w : World} {a : Option Addr} {len cap : Nat} {zs : List Int} (h : IsRowJ w a len cap zs) :
    ∃ (b o : Nat) (ys : List Int), (0 < len → a = some ⟨b, o, none⟩) ∧ ys.length = len ∧ (∀ (j : Nat) (x : Int), ys[j]? = some x → w.cell? ⟨b, o + j, none⟩ = some (.int .i64 x)) ∧ len ≤ maxLen := by
  rcases h with ⟨_, h0⟩ | ⟨x, rfl, hlc, hm, hz, hcell, hwf⟩
  · exact ⟨0, 0, [], fun h => by omega, by rw [h0]; rfl, fun j x hj => by simp at hj, by rw [h0]; exact Nat.zero_le _⟩
  · by_cases hl : 0 < len
    · obtain ⟨b, o, rfl, hc⟩ := ints_at hcell (by omega)
      refine ⟨b, o, zs.take len, fun _ => rfl, by rw [List.length_take]; omega, fun j u hj => ?_, Nat.le_trans hlc hm⟩
      have hj' : j < len := by
        have := (List.getElem?_eq_some_iff.1 hj).1
        rw [List.length_take] at this; omega
      rw [List.getElem?_take_of_lt hj'] at hj
      have h1 := hc j (by omega)
      rw [List.getD_eq_getElem?_getD, hj] at h1
      rw [h1]
      rfl
    · exact ⟨0, 0, [], fun h => absurd h hl, by simp; omega, fun j x hj => by simp at hj, Nat.le_trans hlc hm⟩
end Go.Proofs.YtgienkdfodjoiaaGreat
