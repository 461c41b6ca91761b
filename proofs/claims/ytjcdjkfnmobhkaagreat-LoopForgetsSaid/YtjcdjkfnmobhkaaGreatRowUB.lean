/- A slice of bytes that came in, nil or not. -/
import Derived.Test.YtjcdjkfnmobhkaaGreatBa
import Derived.OpenShut
namespace Go.Proofs.YtjcdjkfnmobhkaaGreat
open Go.RowKit
def IsRowU (w : World) (a : Option Addr) (len cap : Nat) (zs : List Int) : Prop :=
  (a = none ∧ len = 0) ∨
  ∃ x, a = some x ∧ len ≤ cap ∧ cap ≤ maxLen ∧ zs.length = cap ∧ (∀ i, i < zs.length → w.cell? (x.add i) = some (.int .u8 (zs.getD i 0))) ∧ ∀ z ∈ zs, (Lit.int .u8 z).wf = true
theorem rowU {w : World} {a : Option Addr} {len cap : Nat} {zs : List Int} (h : IsRowU w a len cap zs) :
    ∃ (b o : Nat) (us : List Nat), (0 < len → a = some ⟨b, o, none⟩) ∧ us.length = len ∧ (∀ (j u : Nat), us[j]? = some u → w.cell? ⟨b, o + j, none⟩ = some (.int .u8 u)) ∧ (∀ u ∈ us, u ≤ 255) ∧ len ≤ maxLen := by
  rcases h with ⟨_, h0⟩ | ⟨x, rfl, hlc, hm, hz, hcell, hwf⟩
  · exact ⟨0, 0, [], fun h => by omega, by rw [h0]; rfl, fun j x hj => by simp at hj, fun x hx => by simp at hx, by rw [h0]; exact Nat.zero_le _⟩
  · by_cases hl : 0 < len
    · obtain ⟨b, o, rfl, hc⟩ := ints_at hcell (by omega)
      have hb : ∀ z ∈ zs, 0 ≤ z ∧ z ≤ 255 := fun z hz => bounds_u8 (hwf z hz)
      refine ⟨b, o, (zs.take len).map Int.toNat, fun _ => rfl, by rw [List.length_map, List.length_take]; omega, fun j u hj => ?_, fun u hu => ?_, Nat.le_trans hlc hm⟩
      · have hj' : j < len := by
          have := (List.getElem?_eq_some_iff.1 hj).1
          rw [List.length_map, List.length_take] at this; omega
        rw [List.getElem?_map, List.getElem?_take_of_lt hj'] at hj
        obtain ⟨z, hz1, rfl⟩ := Option.map_eq_some_iff.1 hj
        have h1 := hc j (by omega)
        rw [List.getD_eq_getElem?_getD, hz1] at h1
        have h2 := hb z (List.mem_of_getElem? hz1)
        rw [h1]
        simp only [Option.getD_some]
        rw [Int.toNat_of_nonneg h2.1]
      · obtain ⟨z, hz1, rfl⟩ := List.mem_map.1 hu
        have h2 := hb z (List.mem_of_mem_take hz1)
        omega
    · exact ⟨0, 0, [], fun h => absurd h hl, by simp; omega, fun j x hj => by simp at hj, fun x hx => by simp at hx, Nat.le_trans hlc hm⟩
end Go.Proofs.YtjcdjkfnmobhkaaGreat
