/- slices.Delete of the first pair. -/
import Derived.Test.YtppbdamlhcmlcaaPQ
import Derived.Deep.RegionLaw
import Derived.Deep.LoopGhost
namespace Go.Proofs.Ytppbdamlhcmlcaa
open Go.RowKit Go.Shelf Go.Lib
set_option maxRecDepth 100000 in
set_option maxHeartbeats 4000000 in
theorem deleteD (g o cap : Nat) (x : Pr) (r : List Pr) (w : World) (hg : g < w.heap.size) (hcap : r.length + 1 ≤ cap) (hm : cap ≤ maxLen) (h3 : ∀ j u, (flat (x :: r))[j]? = some u → w.cell? ⟨g, o + j, none⟩ = some u) (h4 : ∀ j, j < cap * 2 → (w.cell? ⟨g, o + j, none⟩).isSome = true ∧ w.frozen? ⟨g, o + j, none⟩ = false) :
    Calls Try.prog 39 #[.slice (some ⟨g, o, none⟩) (r.length + 1) cap, .int .i64 0, .int .i64 1] w fun e w' => e = .returned (.slice (some ⟨g, o, none⟩) r.length cap) ∧ QS w' (.slice (some ⟨g, o, none⟩) r.length cap) r ∧ Mv (fun k => k = g) w w' := by
  obtain ⟨n, hn⟩ : ∃ n, r.length = n := ⟨_, rfl⟩
  obtain ⟨news, hnews⟩ : ∃ news, news = flat r := ⟨_, rfl⟩
  have hlen : news.length = n * 2 := by rw [hnews, flat_len, hn]
  have s1 : Hid (news.length = n * 2) := hlen
  have s2 : Hid (∀ u ∈ news, u.oneCell' = true) := by rw [hnews]; exact flat_one r
  have s3 : Hid (∀ t, t < news.length → (w.drew.cell? ⟨g, o + 0 * 2 + t, none⟩).isSome = true ∧ w.drew.frozen? ⟨g, o + 0 * 2 + t, none⟩ = false) := by
    intro t ht
    rw [Nat.zero_mul, Nat.add_zero]
    exact h4 t (by omega)
  obtain ⟨A, hA, hsrc⟩ : ∃ A : Addr, (if cap = 1 then some (⟨g, o, none⟩ : Addr) else some ⟨g, o + 2, none⟩) = some A ∧ Hid (∀ t u, news[t]? = some u → w.drew.cell? (A.add t) = some u) := by
    by_cases h : cap = 1
    · refine ⟨⟨g, o, none⟩, by simp [h], fun t u hu => ?_⟩
      have h0 : news.length = 0 := by rw [hlen]; omega
      rw [List.length_eq_zero_iff.1 h0] at hu
      simp at hu
    · refine ⟨⟨g, o + 2, none⟩, by simp [h], fun t u hu => ?_⟩
      rw [Addr.add_lit, show o + 2 + t = o + (t + 2) by omega]
      exact h3 (t + 2) u (by rw [hnews] at hu; simpa [flat] using hu)
  obtain ⟨W1, hW1⟩ : ∃ W1, W1 = w.drew.setCells g (o + 0 * 2) news := ⟨_, rfl⟩
  have hth : ∀ j, j < news.length → (w.drew.cell? ⟨g, o + j, none⟩).isSome = true := fun j hj => (h4 j (by omega)).1
  have hk1 : ∀ j, j < cap * 2 → (W1.cell? ⟨g, o + j, none⟩).isSome = true ∧ W1.frozen? ⟨g, o + j, none⟩ = false := fun j hj => by
    rw [hW1]
    exact ⟨World.isSome_setCells _ _ _ _ _ (h4 j hj).1, by rw [World.frozen?_setCells]; exact (h4 j hj).2⟩
  have hcl := run_clear2 (t := 28) tyD W1 0 g (o + n * 2) (cap - n) (fun j hj => by rw [Nat.add_assoc]; exact (hk1 _ (by omega)).1) (fun j hj => by rw [Nat.add_assoc]; exact (hk1 _ (by omega)).2)
  have hW : Hid (W1 = w.drew.setCells g (o + 0 * 2) news) := hW1
  have fin : Hid (QS (W1.setCells g (o + n * 2) (flat [zP])) (.slice (some ⟨g, o, none⟩) n cap) r ∧ Mv (fun k => k = g) w (W1.setCells g (o + n * 2) (flat [zP]))) := by
    have mv1 : Mv (fun k => k = g) w W1 := by rw [hW1]; exact (Mv.drew (fun k => k = g) w).setCells (.inl rfl) _ _
    refine ⟨.inr ⟨g, o, cap, by rw [hn], Nat.lt_of_lt_of_le hg (mv1.setCells (.inl rfl) _ _).size, by omega, hm, fun j u hj => ?_, fun j hj => ⟨World.isSome_setCells _ _ _ _ _ (hk1 j hj).1, by rw [World.frozen?_setCells]; exact (hk1 j hj).2⟩⟩, mv1.setCells (.inl rfl) _ _⟩
    rw [← hnews] at hj
    obtain ⟨hlt, hge⟩ := List.getElem?_eq_some_iff.1 hj
    rw [World.cell?_setCells_out _ _ _ _ _ (fun _ _ => .inl (by show o + j < _; omega)), hW1, Nat.zero_mul, Nat.add_zero, World.cell?_setCells_in g _ _ w.drew hth j hlt, hge]
  obtain ⟨i0, hi0, _, hz1, _⟩ := tyD.i
  rw [hn] at hcap ⊢
  have hcapm : (cap : Int) ≤ 9223372036854775807 := by unfold maxLen at hm; omega
  have hnI : (n : Int) + 1 ≤ (cap : Int) := by omega
  have hn1 : (1 : Int) ≤ (n : Int) + 1 := by omega
  clear hW1 hk1 h3 h4 hnews hlen hth hg hn
  go_enter Try.func39, Try.ntmps39
  go_wp2_with fail
  go_region_law (refine step_append_room rfl (.tmp 22) (.tmp 25) 28 rfl 49 i0 2 Try.underlying28 hi0 hz1 g o 0 cap (by simp [Act.eval, Act.put]) A n (cap - 1) news (by simp [Act.eval, Act.put]) s1.out hsrc.out s2.out (by omega) s3.out ?_; rw [← hW.out])
  go_wp2
  go_ret
  exact ⟨by simp, fin.out⟩
end Go.Proofs.Ytppbdamlhcmlcaa
