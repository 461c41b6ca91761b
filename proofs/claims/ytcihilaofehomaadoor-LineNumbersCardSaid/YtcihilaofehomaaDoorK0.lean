/- Contracts of the helpers Short and Texts. -/
import Derived.Test.YtcihilaofehomaaDoorA4
import Derived.Sort.Walk0
namespace Go.Proofs.YtcihilaofehomaaDoor
open Go.RowKit Lin
def ShortP (n m : Nat) (zs : List ByteArray) (w : World) (e : Ending) (w' : World) : Prop := ∃ q, e = .returned (.bool q) ∧ (q = true → zs.length ≤ n ∧ ∀ x ∈ zs, x.size ≤ m) ∧ Below w.heap.size w w'
set_option maxRecDepth 100000 in
set_option maxHeartbeats 1000000 in
theorem short_any (N M : Nat) (a : Option Addr) (b o cap : Nat) (zs : List ByteArray) (w : World) (ha : 0 < zs.length → a = some ⟨b, o, none⟩) (hc : ∀ j x, zs[j]? = some x → w.cell? ⟨b, o + j, none⟩ = some (.string x)) (hs : ∀ x ∈ zs, x.size ≤ maxLen) (hl : zs.length ≤ maxLen) :
    Calls Tryd.prog 20 #[.slice a zs.length cap, .int .i64 N, .int .i64 M] w (ShortP N M zs w) := by
  have hl' : zs.length ≤ 9223372036854775807 := by unfold maxLen at hl; omega
  obtain ⟨n, hn⟩ : ∃ n, zs.length = n := ⟨_, rfl⟩
  rw [hn] at ha hl' ⊢
  have hS : Hid (∀ x ∈ zs, x.size ≤ maxLen) := hs
  have hNn : Hid (zs.length = n) := hn
  clear hl hs hn
  go_enter Tryd.func20, Tryd.ntmps20
  go_wp2_with fail
  go_loopw [7] (fun i wr => ∃ k : Nat, k ≤ n ∧ i = .int .i64 k ∧ wr = w ∧ Hid (∀ j x, j < k → zs[j]? = some x → x.size ≤ M)) (fun i _ => n - (intOf i).toNat)
  case atStart => exact ⟨0, by omega, rfl, rfl, fun j x hj => absurd hj (Nat.not_lt_zero _)⟩
  case round =>
    obtain ⟨k, hk, rfl, rfl, hok⟩ := hrel
    by_cases hkl : k < n
    · obtain ⟨x, hx⟩ : ∃ x, zs[k]? = some x := ⟨_, List.getElem?_eq_getElem (by rw [hNn.out]; exact hkl)⟩
      have hxs := hS.out x (List.mem_of_getElem? hx)
      have hxs' : x.size ≤ 9223372036854775807 := by unfold maxLen at hxs; omega
      have c0 := hc k x hx
      obtain rfl := ha (by omega)
      have hx' : Hid (zs[k]? = some x) := hx
      clear hxs hx
      by_cases hm : M < x.size
      · have hmI : (M : Int) < (x.size : Int) := by omega
        go_wp2_with fail
        go_ret
        exact ⟨false, rfl, by simp, Below.refl _ _⟩
      · have hmI : decide ((M : Int) < (x.size : Int)) = false := by simp; omega
        have hok2 : Hid (∀ j x, j < k + 1 → zs[j]? = some x → x.size ≤ M) := fun j y hj hy => by
          by_cases e : j = k
          · subst e; rw [hx'.out] at hy; cases hy; omega
          · exact hok.out j y (by omega) hy
        go_wp2_with fail
        exact ⟨⟨k + 1, by omega, by go_num, trivial, hok2⟩, by simp [intOf]; omega⟩
    · have hke : k = n := by omega
      subst hke
      go_wp2_with fail
      go_ret
      refine ⟨_, rfl, fun h => ⟨?_, fun x hx => ?_⟩, Below.refl _ _⟩
      · rw [hNn.out]; simp at h; omega
      · obtain ⟨j, hj⟩ := List.getElem?_of_mem hx
        have := (List.getElem?_eq_some_iff.1 hj).1
        exact hok.out j x (by rw [hNn.out] at this; exact this) hj
set_option maxRecDepth 100000 in
set_option maxHeartbeats 1000000 in
theorem texts_same (a1 a2 : Option Addr) (b1 o1 c1 b2 o2 c2 : Nat) (zs : List ByteArray) (w : World) (h1 : 0 < zs.length → a1 = some ⟨b1, o1, none⟩) (h2 : 0 < zs.length → a2 = some ⟨b2, o2, none⟩)
    (hc1 : ∀ j x, zs[j]? = some x → w.cell? ⟨b1, o1 + j, none⟩ = some (.string x)) (hc2 : ∀ j x, zs[j]? = some x → w.cell? ⟨b2, o2 + j, none⟩ = some (.string x)) (hl : zs.length ≤ 1000000) :
    Calls Tryd.prog 17 #[.slice a1 zs.length c1, .slice a2 zs.length c2] w fun e w' => e = .returned (.bool true) ∧ Below w.heap.size w w' := by
  obtain ⟨n, hn⟩ : ∃ n, zs.length = n := ⟨_, rfl⟩
  rw [hn] at h1 h2 hl ⊢
  have hN : Hid (zs.length = n) := hn
  clear hn
  go_enter Tryd.func17, Tryd.ntmps17
  go_wp2_with fail
  go_loopw [5] (fun i wr => ∃ k : Nat, k ≤ n ∧ i = .int .i64 k ∧ Below w.heap.size w wr) (fun i _ => n - (intOf i).toNat)
  case atStart => exact ⟨0, by omega, rfl, Below.refl _ _⟩
  case round =>
    obtain ⟨k, hk, rfl, hb⟩ := hrel
    by_cases hkl : k < n
    · obtain ⟨x, hx⟩ : ∃ x, zs[k]? = some x := ⟨_, List.getElem?_eq_getElem (by rw [hN.out]; exact hkl)⟩
      have e1 := hc1 k x hx
      have e2 := hc2 k x hx
      have d1 := (hb.cell (p := ⟨b1, o1 + k, none⟩) (cell_lt e1)).trans e1
      have d2 := (hb.cell (p := ⟨b2, o2 + k, none⟩) (cell_lt e2)).trans e2
      obtain rfl := h1 (by omega)
      obtain rfl := h2 (by omega)
      clear e1 e2 hc1 hc2 h1 h2
      go_wp2_with fail
      go_quiet (fail)
      go_wp2_with fail
      exact ⟨⟨k + 1, by omega, by go_num, below_drewN hb _⟩, by simp [intOf]; omega⟩
    · have hke : k = n := by omega
      subst hke
      go_wp2_with fail
      go_ret
      exact ⟨rfl, hb⟩
/-- Words that a row owns. -/
theorem own_cells {w : World} {base : Nat} {v : Value} {l : List L} (h : w.ownsRow base 9 1 v l.length (strs l)) :
    ∃ (a : Option Addr) (g cap : Nat), v = .slice a l.length cap ∧ (0 < l.length → a = some ⟨g, 0, none⟩) ∧ ∀ (j : Nat) (x : ByteArray), (l.map fun y => (⟨y.toArray⟩ : ByteArray))[j]? = some x → w.cell? ⟨g, 0 + j, none⟩ = some (.string x) := by
  rcases h.2 with ⟨hv, h0⟩ | ⟨g, cap, cur, hv, _⟩
  · refine ⟨none, 0, 0, by rw [hv, h0], fun hp => by omega, fun j x hj => ?_⟩
    have := (List.getElem?_eq_some_iff.1 hj).1
    rw [List.length_map] at this; omega
  · refine ⟨some ⟨g, 0, none⟩, g, cap, hv, fun _ => rfl, fun j x hj => ?_⟩
    have hjl : j < l.length := by have := (List.getElem?_eq_some_iff.1 hj).1; rwa [List.length_map] at this
    subst hv
    have hc := h.cellAt j (by omega)
    rw [Nat.zero_add]
    refine hc.trans ?_
    unfold strs
    rw [List.getElem?_map] at hj ⊢
    obtain ⟨y, hy, rfl⟩ := Option.map_eq_some_iff.1 hj
    rw [hy]; rfl
end Go.Proofs.YtcihilaofehomaaDoor
