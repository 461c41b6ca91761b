/- Contracts of the helpers Short and Texts. -/
import Derived.Test.YtmoafagemdnifaaDoorA4
import Derived.Sort.Walk0
namespace Go.Proofs.YtmoafagemdnifaaDoor
open Go.RowKit Lin
def ShortP (n m : Nat) (zs : List ByteArray) (w : World) (e : Ending) (w' : World) : Prop := ∃ q, e = .returned (.bool q) ∧ (q = true → zs.length ≤ n ∧ ∀ x ∈ zs, x.size ≤ m) ∧ Below w.heap.size w w'
set_option maxRecDepth 100000 in
set_option maxHeartbeats 1000000 in
theorem texts_same (a1 a2 : Option Addr) (b1 o1 c1 b2 o2 c2 : Nat) (zs : List ByteArray) (w : World) (h1 : 0 < zs.length → a1 = some ⟨b1, o1, none⟩) (h2 : 0 < zs.length → a2 = some ⟨b2, o2, none⟩)
    (hc1 : ∀ j x, zs[j]? = some x → w.cell? ⟨b1, o1 + j, none⟩ = some (.string x)) (hc2 : ∀ j x, zs[j]? = some x → w.cell? ⟨b2, o2 + j, none⟩ = some (.string x)) (hl : zs.length ≤ 1000000) :
    Calls Tryd.prog 21 #[.slice a1 zs.length c1, .slice a2 zs.length c2] w fun e w' => e = .returned (.bool true) ∧ Below w.heap.size w w' := by
  obtain ⟨n, hn⟩ : ∃ n, zs.length = n := ⟨_, rfl⟩
  rw [hn] at h1 h2 hl ⊢
  have hN : Hid (zs.length = n) := hn
  clear hn
  go_enter Tryd.func21, Tryd.ntmps21
  go_wp2_with fail
  go_loopw [5] (fun i wr => ∃ k : Nat, k ≤ n ∧ i = .int .i64 k ∧ Below w.heap.size w wr) (fun i _ => n - (intOf i).toNat)
  case atStart => exact ⟨0, by omega, rfl, Below.refl _ _⟩
  case round =>
    obtain ⟨k, hk, rfl, hb⟩ := hrel
    by_cases hkl : k < n
    · obtain ⟨x, hx⟩ : ∃ x, zs[k]? = some x := ⟨_, List.getElem?_eq_getElem (by rw [hN.out]; exact hkl)⟩
      have e1 := hc1 k x hx
      have e2 := hc2 k x hx
      have d1 := (hb.cell (p := ⟨b1, o1 + k, none⟩) (cell_lt e1)).trans e1
      have d2 := (hb.cell (p := ⟨b2, o2 + k, none⟩) (cell_lt e2)).trans e2
      obtain rfl := h1 (by omega)
      obtain rfl := h2 (by omega)
      clear e1 e2 hc1 hc2 h1 h2
      go_wp2_with fail
      go_quiet (fail)
      go_wp2_with fail
      exact ⟨⟨k + 1, by omega, by go_num, below_drewN hb _⟩, by simp [intOf]; omega⟩
    · have hke : k = n := by omega
      subst hke
      go_wp2_with fail
      go_ret
      exact ⟨rfl, hb⟩
/-- Words that a row owns. -/
theorem own_cells {w : World} {base : Nat} {v : Value} {l : List L} (h : w.ownsRow base 9 1 v l.length (strs l)) :
    ∃ (a : Option Addr) (g cap : Nat), v = .slice a l.length cap ∧ (0 < l.length → a = some ⟨g, 0, none⟩) ∧ ∀ (j : Nat) (x : ByteArray), (l.map fun y => (⟨y.toArray⟩ : ByteArray))[j]? = some x → w.cell? ⟨g, 0 + j, none⟩ = some (.string x) := by
  rcases h.2 with ⟨hv, h0⟩ | ⟨g, cap, cur, hv, _⟩
  · refine ⟨none, 0, 0, by rw [hv, h0], fun hp => by omega, fun j x hj => ?_⟩
    have := (List.getElem?_eq_some_iff.1 hj).1
    rw [List.length_map] at this; omega
  · refine ⟨some ⟨g, 0, none⟩, g, cap, hv, fun _ => rfl, fun j x hj => ?_⟩
    have hjl : j < l.length := by have := (List.getElem?_eq_some_iff.1 hj).1; rwa [List.length_map] at this
    subst hv
    have hc := h.cellAt j (by omega)
    rw [Nat.zero_add]
    refine hc.trans ?_
    unfold strs
    rw [List.getElem?_map] at hj ⊢
    obtain ⟨y, hy, rfl⟩ := Option.map_eq_some_iff.1 hj
    rw [hy]; rfl
end Go.Proofs.YtmoafagemdnifaaDoor
