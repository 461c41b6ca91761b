/- A slice of strings that came in, nil or not. -/
import Derived.Test.YtcihilaofehomaaDoorU
import Derived.OpenShut
import Derived.SliceStrings
namespace Go.Proofs.YtcihilaofehomaaDoor
open Go.RowKit
def IsRowS (w : World) (a : Option Addr) (len cap : Nat) (ss : List ByteArray) : Prop :=
  (a = none ∧ len = 0) ∨
  ∃ x, a = some x ∧ len ≤ cap ∧ cap ≤ maxLen ∧ ss.length = cap ∧ (∀ i, i < ss.length → w.cell? (x.add i) = some (.string (ss.getD i ByteArray.empty))) ∧ (∀ s ∈ ss, s.size ≤ maxLen)
theorem rowS {w : World} {a : Option Addr} {len cap : Nat} {ss : List ByteArray} (h : IsRowS w a len cap ss) :
    ∃ (b o : Nat) (zs : List ByteArray), (0 < len → a = some ⟨b, o, none⟩) ∧ zs.length = len ∧ (∀ j x, zs[j]? = some x → w.cell? ⟨b, o + j, none⟩ = some (.string x)) ∧ (∀ x ∈ zs, x.size ≤ maxLen) ∧ len ≤ maxLen := by
  rcases h with ⟨_, h0⟩ | ⟨x, rfl, hlc, hm, hz, hcell, hsz⟩
  · exact ⟨0, 0, [], fun h => by omega, by rw [h0]; rfl, fun j x hj => by simp at hj, fun x hx => by simp at hx, by rw [h0]; exact Nat.zero_le _⟩
  · by_cases hl : 0 < len
    · obtain ⟨b, o, rfl⟩ : ∃ b o, x = ⟨b, o, none⟩ := by
        obtain ⟨b, o, spot⟩ := x
        have hspot : spot = none := by simpa [Addr.add] using World.cell?_spot (hcell 0 (by omega))
        subst hspot
        exact ⟨b, o, rfl⟩
      refine ⟨b, o, ss.take len, fun _ => rfl, by rw [List.length_take]; omega, fun j x hj => ?_, fun x hx => hsz x (List.mem_of_mem_take hx), Nat.le_trans hlc hm⟩
      have hj' : j < len := by
        have := (List.getElem?_eq_some_iff.1 hj).1
        rw [List.length_take] at this; omega
      rw [List.getElem?_take_of_lt hj'] at hj
      have := hcell j (by omega)
      rw [List.getD_eq_getElem?_getD, hj, Go.WideShapes.add_plain] at this
      exact this
    · exact ⟨0, 0, [], fun h => absurd h hl, by simp; omega, fun j x hj => by simp at hj, fun x hx => by simp at hx, Nat.le_trans hlc hm⟩
end Go.Proofs.YtcihilaofehomaaDoor
