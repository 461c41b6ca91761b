/- The law SpanLeast answers true at every slice: its walk. -/
import Derived.Test.YtlnfapkpehhafaaDoorL2
namespace Go.Proofs.YtlnfapkpehhafaaDoor
open Go.RowKit
theorem mn_le (x : Nat → Int) : ∀ k j, j < k → mn x k ≤ x j := by
  intro k
  induction k with
  | zero => intro j h; omega
  | succ k ih =>
    intro j hj
    by_cases h0 : k = 0
    · obtain rfl : j = 0 := by omega
      rw [mn_less x k (.inl h0), h0]; omega
    · by_cases hx : x k < mn x k
      · rw [mn_less x k (.inr hx)]
        by_cases e : j = k
        · rw [e]; omega
        · have := ih j (by omega); omega
      · rw [mn_same x k (by omega) hx]
        by_cases e : j = k
        · rw [e]; omega
        · exact ih j (by omega)
theorem mn_in (x : Nat → Int) : ∀ k, 0 < k → ∃ j, j < k ∧ x j = mn x k := by
  intro k
  induction k with
  | zero => intro h; omega
  | succ k ih =>
    intro _
    by_cases h0 : k = 0
    · exact ⟨k, by omega, (mn_less x k (.inl h0)).symm⟩
    · by_cases hx : x k < mn x k
      · exact ⟨k, by omega, (mn_less x k (.inr hx)).symm⟩
      · obtain ⟨j, hj, e⟩ := ih (by omega)
        exact ⟨j, by omega, by rw [mn_same x k (by omega) hx]; exact e⟩
def thereB (x : Nat → Int) (m : Int) : Nat → Bool
  | 0 => false
  | k + 1 => thereB x m k || (x k == m)
theorem there_in (x : Nat → Int) (m : Int) : ∀ k j, j < k → x j = m → thereB x m k = true := by
  intro k
  induction k with
  | zero => intro j h; omega
  | succ k ih =>
    intro j hj e
    unfold thereB
    by_cases h : j = k
    · subst h; simp [e]
    · rw [ih j (by omega) e]; rfl
set_option maxRecDepth 100000 in
set_option maxHeartbeats 2000000 in
theorem least_walk (a : Option Addr) (b o len cap : Nat) (x : Nat → Int) (w : World) (hT : TabsIn w) (hlm : len ≤ maxLen) (ha : 0 < len → a = some ⟨b, o, none⟩) (hel : ∀ j, j < len → w.cell? ⟨b, o + j, none⟩ = some (.int .i64 (x j))) :
    Calls Tryd.prog 6 #[.slice a len cap] w fun e w' => e = .returned (.bool true) ∧ Below w.heap.size w w' := by
  unfold maxLen at hlm
  have hB0 : Below w.heap.size w (w.alloc (.cells #[.slice a len cap] 33)) := (Below.refl _ w).alloc (Nat.le_refl _) _
  have hT0 := hT.below hB0
  go_enter Tryd.func6, Tryd.ntmps6
  go_wp2_with fail
  refine (known_any _ hT0).mono ?_
  rintro e w1 ⟨rfl, hb1⟩
  have cb : w1.cell? ⟨w.heap.size, 0, none⟩ = some (.slice a len cap) := by rw [hb1.cell (by simp)]; simp
  have hb1' : Below w.heap.size w w1 := hB0.trans (hb1.mono (by simp))
  have hz1 : w.heap.size < w1.heap.size := by have := hb1.size; simp at this; omega
  by_cases hbig : 200 < len
  · go_wp2_with fail
    go_ret
    exact ⟨rfl, hb1'⟩
  · have hel1 : ∀ j, j < len → w1.cell? ⟨b, o + j, none⟩ = some (.int .i64 (x j)) := fun j hj => (hb1'.cell (p := ⟨b, o + j, none⟩) (World.block_lt_of_cell? w _ (hel j hj))).trans (hel j hj)
    have hbl : 0 < len → b < w1.heap.size := fun h => World.block_lt_of_cell? w1 _ (hel1 0 h)
    have hbw : 0 < len → b < w.heap.size := fun h => World.block_lt_of_cell? w _ (hel 0 h)
    have hsrc : Src (w1.alloc (.cells #[.int .i64 0] 3)) w.heap.size w1.heap.size a b o len cap x :=
      ⟨(World.cell?_alloc_lt _ _ _ (by simpa using hz1)).trans cb, ha, fun j hj => (World.cell?_alloc_lt _ _ _ (by simpa using hbl (by omega))).trans (hel1 j hj), by omega, fun h => by have := hbw h; omega⟩
    have hL := hide2 (callsIn_wide.1 (least_in 5 (w1.alloc (.cells #[.int .i64 0] 3)) w.heap.size w1.heap.size a b o len cap x hsrc (by simp) (by omega) (by simp) (by simp)))
    go_wp2_with fail
    refine hL.out.mono ?_
    rintro e w3 ⟨rfl, cG, hgr⟩
    have cb3 : w3.cell? ⟨w.heap.size, 0, none⟩ = some (.slice a len cap) := src_box hsrc hgr
    have hel3 : ∀ j, j < len → w3.cell? ⟨b, o + j, none⟩ = some (.int .i64 (x j)) := fun j hj => src_el hsrc hgr j hj
    have hfin : Below w.heap.size w w3 := (hb1'.alloc (by omega) _).grown hgr (by simp; omega) (fun k e => by cases e; omega)
    clear hL hgr hel hel1 hbl hb1 hb1' hB0 cb hT hT0
    by_cases h0 : len = 0
    · subst h0
      have d0 : mn x 0 = 0 := rfl
      have d1 : decide (0 < 0) = false := rfl
      go_wp2_with fail
      go_ret
      exact ⟨by simp, hfin⟩
    · obtain rfl := ha (by omega)
      have d1 : decide (0 < len) = true := by simp; omega
      have hne : ((len : Int) == 0) = false := by simp; omega
      have hle := hide2 (mn_le x len)
      have hin := hide2 (mn_in x len (by omega))
      generalize mn x len = m at hle hin ⊢
      go_wp2_with fail
      go_loop [6, 7] (fun th ix => ∃ i : Nat, ix = .int .i64 i ∧ i ≤ len ∧ th = .bool (thereB x m i)) (fun _ ix => len - (intOf ix).toNat)
      case atStart => exact ⟨0, rfl, Nat.zero_le _, rfl⟩
      case round =>
        obtain ⟨i, rfl, hi, rfl⟩ := hrel
        by_cases hlt : i < len
        · have ce := hel3 i hlt
          have hm := hle.out i hlt
          have hi1 : (i : Int) < (len : Int) := by omega
          have hst : Hid (thereB x m (i + 1) = (thereB x m i || (x i == m))) := rfl
          cases hth : thereB x m i with
          | true =>
            go_wp2_with fail
            exact ⟨⟨i + 1, by go_num, by omega, by rw [hst.out, hth]; rfl⟩, by simp [intOf]; omega⟩
          | false =>
            go_wp2_with fail
            exact ⟨⟨i + 1, by go_num, by omega, by rw [hst.out, hth]; rfl⟩, by simp [intOf]; omega⟩
        · obtain rfl : i = len := by omega
          have hT : thereB x m i = true := by
            obtain ⟨j, hj, e⟩ := hin.out
            exact there_in x m i j hj e
          go_wp2_with fail
          go_ret
          exact ⟨by simp, hfin⟩
end Go.Proofs.YtlnfapkpehhafaaDoor
