/- The contract of the reference's Same at two files of the same settings. -/
import Derived.Test.YtmoafagemdnifaaDoorF3
namespace Go.Proofs.YtmoafagemdnifaaDoor
open Go.RowKit Go.Shelf
set_option maxRecDepth 100000 in
set_option maxHeartbeats 4000000 in
theorem same_any (v1 v2 : Value) (l : List St) (w : World) (h1 : SlIs (fun _ => False) w v1 l) (h2 : SlIs (fun _ => False) w v2 l) (hl : l.length ≤ 1000000000) :
    Calls Tryd.prog 10 #[.agg #[v1], .agg #[v2]] w fun e w' => e = .returned (.bool true) ∧ Below w.heap.size w w' := by
  obtain ⟨a1, c1, rfl, h1⟩ := h1
  obtain ⟨a2, c2, rfl, h2⟩ := h2
  obtain ⟨n, hn⟩ : ∃ n, l.length = n := ⟨_, rfl⟩
  rw [hn] at h1 h2 hl ⊢
  have hN : Hid (l.length = n) := hn
  obtain ⟨W0, hW0⟩ : ∃ W0, (w.alloc (.cells #[.slice a1 n c1] 25)).alloc (.cells #[.slice a2 n c2] 25) = W0 := ⟨_, rfl⟩
  have m0 : Mv (fun _ => False) w W0 := by rw [← hW0]; exact (Mv.alloc _ _ _).trans' (Mv.alloc _ _ _)
  have hb0 : Below w.heap.size w W0 := m0.toBelow (Nat.le_refl _) (fun _ _ h => h)
  have q1 : W0.cell? ⟨w.heap.size, 0, none⟩ = some (.slice a1 n c1) := by rw [← hW0]; exact (Mv.alloc (fun _ => False) _ _).cell (fun h => h) (cell_at rfl rfl)
  have q2 : W0.cell? ⟨w.heap.size + 1, 0, none⟩ = some (.slice a2 n c2) := by rw [← hW0]; exact cell_at (by simp) rfl
  clear hn
  go_enter Tryd.func10, Tryd.ntmps10
  go_wp2_with (rw [hW0])
  go_loopw [5] (fun i wr => ∃ (k : Nat), k ≤ n ∧ i = .int .i64 k ∧ Below w.heap.size w wr ∧ wr.cell? ⟨w.heap.size, 0, none⟩ = some (.slice a1 n c1) ∧ wr.cell? ⟨w.heap.size + 1, 0, none⟩ = some (.slice a2 n c2)) (fun i _ => n - (intOf i).toNat)
  case atStart => exact ⟨0, by omega, rfl, hb0, q1, q2⟩
  case round =>
    obtain ⟨k, hk, rfl, hb, r1, r2⟩ := hrel
    by_cases hlt : k < n
    · obtain ⟨x, hx⟩ : ∃ x, l[k]? = some x := ⟨_, List.getElem?_eq_getElem (by rw [hN.out]; exact hlt)⟩
      obtain ⟨g1, o1, rfl, _, hs1⟩ := h1 (by omega)
      obtain ⟨g2, o2, rfl, _, hs2⟩ := h2 (by omega)
      have mr : Mv (fun _ => False) w wr := Mv.below hb
      obtain ⟨p0, p1, p2, p3⟩ := (hs1 k x hx).mv mr (fun h => h)
      obtain ⟨s0, s1, s2, s3⟩ := (hs2 k x hx).mv mr (fun h => h)
      have hkI : (k : Int) < (n : Int) := by omega
      clear hx hs1 hs2 h1 h2
      go_wp2_with fail
      go_quiet (fail)
      all_goals go_wp2_with fail
      exact ⟨⟨k + 1, by omega, by go_num, below_drewN hb _, r1, r2⟩, by simp [intOf]; omega⟩
    · obtain rfl : k = n := by omega
      go_wp2_with fail
      go_ret
      exact ⟨rfl, hb⟩
end Go.Proofs.YtmoafagemdnifaaDoor
