/- Contracts of the helpers Short and Texts. -/
import Derived.Test.YtimmieelpaoncaaDoorS1
import Derived.Test.YtimmieelpaoncaaDoorA3
import Derived.Sort.Walk0
namespace Go.Proofs.YtimmieelpaoncaaDoor
open Go.RowKit Nam
def ShortP (n : Nat) (w : World) (e : Ending) (w' : World) : Prop := ∃ q, e = .returned (.bool q) ∧ (q = true → n ≤ 60) ∧ Below w.heap.size w w'
set_option maxRecDepth 100000 in
set_option maxHeartbeats 1000000 in
theorem short_any (a : Option Addr) (b o cap : Nat) (zs : List ByteArray) (w : World) (ha : 0 < zs.length → a = some ⟨b, o, none⟩) (hc : ∀ j x, zs[j]? = some x → w.cell? ⟨b, o + j, none⟩ = some (.string x)) (hs : ∀ x ∈ zs, x.size ≤ maxLen) (hl : zs.length ≤ maxLen) :
    Calls Tryd.prog 30 #[.slice a zs.length cap, .int .i64 60, .int .i64 60] w (ShortP zs.length w) := by
  have hl' : zs.length ≤ 9223372036854775807 := by unfold maxLen at hl; omega
  obtain ⟨n, hn⟩ : ∃ n, zs.length = n := ⟨_, rfl⟩
  rw [hn] at ha hl' ⊢
  have hS : Hid (∀ x ∈ zs, x.size ≤ maxLen) := hs
  have hN : Hid (zs.length = n) := hn
  clear hl hs hn
  go_enter Tryd.func30, Tryd.ntmps30
  go_wp2_with fail
  go_loopw [7] (fun i wr => ∃ k : Nat, k ≤ n ∧ i = .int .i64 k ∧ wr = w) (fun i _ => n - (intOf i).toNat)
  case atStart => exact ⟨0, by omega, rfl, rfl⟩
  case round =>
    obtain ⟨k, hk, rfl, rfl⟩ := hrel
    by_cases hkl : k < n
    · obtain ⟨x, hx⟩ : ∃ x, zs[k]? = some x := ⟨_, List.getElem?_eq_getElem (by rw [hN.out]; exact hkl)⟩
      have hxs := hS.out x (List.mem_of_getElem? hx)
      have hxs' : x.size ≤ 9223372036854775807 := by unfold maxLen at hxs; omega
      have c0 := hc k x hx
      obtain rfl := ha (by omega)
      clear hxs
      go_wp2_with fail
      · go_ret
        exact ⟨false, rfl, by simp, Below.refl _ _⟩
      · exact ⟨⟨k + 1, by omega, rfl, trivial⟩, by simp [intOf]; omega⟩
    · have hke : k = n := by omega
      subst hke
      go_wp2_with fail
      go_ret
      exact ⟨_, rfl, by simp; omega, Below.refl _ _⟩
set_option maxRecDepth 100000 in
set_option maxHeartbeats 1000000 in
theorem texts_same (a1 a2 : Option Addr) (b1 o1 c1 b2 o2 c2 : Nat) (zs : List ByteArray) (w : World) (h1 : 0 < zs.length → a1 = some ⟨b1, o1, none⟩) (h2 : 0 < zs.length → a2 = some ⟨b2, o2, none⟩)
    (hc1 : ∀ j x, zs[j]? = some x → w.cell? ⟨b1, o1 + j, none⟩ = some (.string x)) (hc2 : ∀ j x, zs[j]? = some x → w.cell? ⟨b2, o2 + j, none⟩ = some (.string x)) (hl : zs.length ≤ 1000) :
    Calls Tryd.prog 31 #[.slice a1 zs.length c1, .slice a2 zs.length c2] w fun e w' => e = .returned (.bool true) ∧ Below w.heap.size w w' := by
  obtain ⟨n, hn⟩ : ∃ n, zs.length = n := ⟨_, rfl⟩
  rw [hn] at h1 h2 hl ⊢
  have hN : Hid (zs.length = n) := hn
  clear hn
  go_enter Tryd.func31, Tryd.ntmps31
  go_wp2_with fail
  go_loopw [5] (fun i wr => ∃ k : Nat, k ≤ n ∧ i = .int .i64 k ∧ Below w.heap.size w wr) (fun i _ => n - (intOf i).toNat)
  case atStart => exact ⟨0, by omega, rfl, Below.refl _ _⟩
  case round =>
    obtain ⟨k, hk, rfl, hb⟩ := hrel
    by_cases hkl : k < n
    · obtain ⟨x, hx⟩ : ∃ x, zs[k]? = some x := ⟨_, List.getElem?_eq_getElem (by rw [hN.out]; exact hkl)⟩
      have e1 := hc1 k x hx
      have e2 := hc2 k x hx
      have d1 := (hb.cell (p := ⟨b1, o1 + k, none⟩) (cell_lt e1)).trans e1
      have d2 := (hb.cell (p := ⟨b2, o2 + k, none⟩) (cell_lt e2)).trans e2
      obtain rfl := h1 (by omega)
      obtain rfl := h2 (by omega)
      clear e1 e2 hc1 hc2 h1 h2
      go_wp2_with fail
      go_quiet (fail)
      go_wp2_with fail
      exact ⟨⟨k + 1, by omega, by go_num, below_drewN hb _⟩, by simp [intOf]; omega⟩
    · have hke : k = n := by omega
      subst hke
      go_wp2_with fail
      go_ret
      exact ⟨rfl, hb⟩
end Go.Proofs.YtimmieelpaoncaaDoor
