/- The contract of the laws' known. -/
import Derived.Test.YtmoafagemdnifaaDoorF6a
import Derived.Test.YtmoafagemdnifaaDoorF7
namespace Go.Proofs.YtmoafagemdnifaaDoor
open Go.RowKit Go.Shelf Lin
theorem own_sl {w : World} {base : Nat} {v : Value} {l : List St} (E : Nat → Prop) (hE : ∀ k, base ≤ k → ¬ E k) (h : w.ownsRow base 44 4 v l.length (stsC l)) : SlIs E w v l := by
  rcases h.2 with ⟨hv, h0⟩ | ⟨g, cap, cur, hv, hb, _⟩
  · exact ⟨none, 0, by rw [hv, h0], fun hp => by omega⟩
  · refine ⟨some ⟨g, 0, none⟩, cap, hv, fun _ => ⟨g, 0, rfl, hE g hb, fun j x hj => ?_⟩⟩
    have hjl : j < l.length := (List.getElem?_eq_some_iff.1 hj).1
    subst hv
    have hc : ∀ i, i < 4 → w.cell? ⟨g, j * 4 + i, none⟩ = (stC x)[i]? := fun i hi => (h.cellAt (j * 4 + i) (by omega)).trans (stsC_at l j x i hj hi)
    rw [Nat.zero_add]
    exact ⟨hc 0 (by omega), hc 1 (by omega), hc 2 (by omega), hc 3 (by omega)⟩
def lnsK : L := [91, 83, 93, 10, 65, 61, 49, 10, 65, 61, 10, 65, 61, 50, 10]
def stK (v : Array UInt8) (n : Int) : St := ⟨⟨#[83]⟩, ⟨#[65]⟩, ⟨v⟩, n⟩
theorem filK1 : filL (lns lnsK) = .ok [stK #[49] 2, stK #[] 3, stK #[50] 4] := by kernel_rfl
theorem filK2 : filL (lns [65, 61, 49, 10]) = .error (1, 60) := by kernel_rfl
theorem mrgK : [stK #[50] 4, stK #[] 3, stK #[49] 2].foldl stp ([], []) = ([(⟨#[83]⟩, ⟨#[65]⟩)], [stK #[50] 4]) := by kernel_rfl
theorem parseK1 (w : World) (hg : Mx w) : Calls Tryd.prog 8 #[.string ⟨#[91, 83, 93, 10, 65, 61, 49, 10, 65, 61, 10, 65, 61, 50, 10]⟩] w fun e w' => ∃ v, e = .returned (.tuple #[.agg #[v], .int .i64 0, .int .i64 0]) ∧ w'.ownsRow w.heap.size 44 4 v 3 (stsC [stK #[49] 2, stK #[] 3, stK #[50] 4]) ∧ Below w.heap.size w w' := by
  have h := fparse_any ⟨#[91, 83, 93, 10, 65, 61, 49, 10, 65, 61, 10, 65, 61, 50, 10]⟩ w hg
  rw [show fil (⟨#[91, 83, 93, 10, 65, 61, 49, 10, 65, 61, 10, 65, 61, 50, 10]⟩ : ByteArray).data.toList = _ from filK1] at h
  exact h
theorem parseK2 (w : World) (hg : Mx w) : Calls Tryd.prog 8 #[.string ⟨#[65, 61, 49, 10]⟩] w fun e w' => e = .returned (.tuple #[.agg #[.slice none 0 0], .int .i64 1, .int .i64 60]) ∧ Below w.heap.size w w' := by
  have h := fparse_any ⟨#[65, 61, 49, 10]⟩ w hg
  rw [show fil (⟨#[65, 61, 49, 10]⟩ : ByteArray).data.toList = _ from filK2] at h
  exact h
theorem mergeK (v : Value) (g cap : Nat) (w : World) (hc : w.cell? ⟨g, 0, none⟩ = some v) (hs : SlIs (fun _ => False) w v [stK #[49] 2, stK #[] 3, stK #[50] 4]) :
    Calls Tryd.prog 12 #[.slice (some ⟨g, 0, none⟩) 1 cap] w fun e w' => ∃ v, e = .returned (.agg #[v]) ∧ w'.ownsRow w.heap.size 44 4 v 1 (stsC [stK #[50] 4]) ∧ Below w.heap.size w w' := by
  refine merge_any (some ⟨g, 0, none⟩) 1 cap [(v, [stK #[49] 2, stK #[] 3, stK #[50] 4])] w ⟨_, _, rfl, fun _ => ⟨g, 0, rfl, fun h => h, fun j p hj => ?_⟩, fun p hp => ?_⟩ (by simp) (by simp [flatR, bk]) (fun x hx => ?_) _ mrgK
  · cases j with
    | zero => simp at hj; subst hj; exact hc
    | succ j => simp at hj
  · simp at hp; subst hp; exact hs
  · simp [flatR, bk] at hx
    rcases hx with rfl | rfl | rfl <;> exact ⟨by decide, by decide⟩
set_option maxRecDepth 100000 in
set_option maxHeartbeats 4000000 in
theorem known_any (w : World) (hg : Mx w) : Calls Tryd.prog 7 #[] w fun e w' => e = .returned (.bool true) ∧ Below w.heap.size w w' := by
  go_enter Tryd.func7, Tryd.ntmps7
  go_wp2_with fail
  refine (parseK1 w hg).mono ?_
  rintro e w1 ⟨v1, rfl, ho1, hb1⟩
  obtain ⟨a1, n1, c1, rfl⟩ := own_slice ho1
  have hn1 : n1 = 3 := by
    rcases ho1.2 with ⟨_, h⟩ | ⟨g, cap, cur, h, _⟩
    · cases h
    · cases h; rfl
  subst hn1
  obtain ⟨W1, hW1⟩ : ∃ W1, (w1.alloc (.cells #[.slice a1 3 c1] 25)).alloc (.cells #[.slice a1 3 c1] 25) = W1 := ⟨_, rfl⟩
  have mW : Mv (fun _ => False) w1 W1 := by rw [← hW1]; exact (Mv.alloc _ _ _).trans' (Mv.alloc _ _ _)
  have k1 : Cl w1.heap.size (.slice a1 3 c1) W1 := by
    rw [← hW1]
    exact Cl.mv (E := fun _ => False) (W := w1.alloc (.cells #[.slice a1 3 c1] 25)) ⟨cell_at rfl rfl, World.frozen?_alloc_new _ _ _ _⟩ (Mv.alloc _ _ _) (fun h => h)
  have k2 : W1.cell? ⟨w1.heap.size + 1, 0, none⟩ = some (.slice a1 3 c1) := by rw [← hW1]; exact cell_at (by simp) rfl
  have hb2 : Below w.heap.size w W1 := hb1.trans (mW.toBelow hb1.size (fun _ _ h => h))
  have hsl : SlIs (fun _ => False) W1 (.slice a1 3 c1) [stK #[49] 2, stK #[] 3, stK #[50] 4] := (own_sl _ (fun _ _ h => h) (show w1.ownsRow _ _ _ _ [stK #[49] 2, stK #[] 3, stK #[50] 4].length _ from ho1)).mv mW (Gr.refl _ _)
  have hmg := mergeK (.slice a1 3 c1) (w1.heap.size + 1) 1 W1 k2 hsl
  go_wp2_with (rw [hW1])
  refine hmg.mono ?_
  rintro e w2 ⟨v2, rfl, ho2, hb3⟩
  dsimp only
  have hm2 : Mv (fun _ => False) W1 w2 := Mv.below hb3
  obtain ⟨g2, c2, rfl⟩ := ownsRow_succ (k := 0) ho2
  rw [Nat.zero_add] at ho2 ⊢
  obtain ⟨a2, c2', hv2, hs2⟩ := own_sl (l := [stK #[50] 4]) (fun _ => False) (fun _ _ h => h) ho2
  obtain ⟨g3, o3, ha, -, hs3⟩ := hs2 (by simp)
  subst ha
  simp only [Value.slice.injEq, Option.some.injEq, Addr.mk.injEq] at hv2
  obtain ⟨⟨rfl, rfl, -⟩, -, -⟩ := hv2
  have hx := hs3 0 _ rfl
  obtain ⟨W2, hW2⟩ : ∃ W2, w2.alloc (.cells #[.slice (some ⟨g2, 0, none⟩) 1 c2] 25) = W2 := ⟨_, rfl⟩
  have mW2 : Mv (fun _ => False) w2 W2 := by rw [← hW2]; exact Mv.alloc _ _ _
  have k3 : Cl w2.heap.size (.slice (some ⟨g2, 0, none⟩) 1 c2) W2 := by rw [← hW2]; exact ⟨cell_at rfl rfl, World.frozen?_alloc_new _ _ _ _⟩
  have hb4 : Below w.heap.size w W2 := (hb2.trans (hb3.mono hb2.size)).trans (mW2.toBelow (by have := hb2.size; have := hb3.size; omega) (fun _ _ h => h))
  have k1' := (k1.mv hm2 (fun h => h)).mv mW2 (fun h => h)
  have hx2 := hx.mv mW2 (fun h => h)
  clear hs2 hs3 hx hsl hmg ho1 ho2
  go_wp2_with (rw [hW2])
  refine (parseK2 W2 (hg.below hb4)).mono ?_
  rintro e w3 ⟨rfl, hb5⟩
  have m3 : Mv (fun _ => False) W2 w3 := Mv.below hb5
  obtain ⟨W3, hW3⟩ : ∃ W3, w3.alloc (.cells #[.slice none 0 0] 25) = W3 := ⟨_, rfl⟩
  have m4 : Mv (fun _ => False) w3 W3 := by rw [← hW3]; exact Mv.alloc _ _ _
  have k5 : Cl w3.heap.size (.slice none 0 0) W3 := by rw [← hW3]; exact ⟨cell_at rfl rfl, World.frozen?_alloc_new _ _ _ _⟩
  have y1 := k5.c
  have y2 := k5.f
  obtain ⟨W4, hW4⟩ : ∃ W4, W3.setCell ⟨w3.heap.size, 0, none⟩ (.slice none 0 0) = W4 := ⟨_, rfl⟩
  have m5 : Mv (fun k => k = w3.heap.size) W3 W4 := by rw [← hW4]; exact Mv.set1 (E := fun k => k = w3.heap.size) rfl _
  have s1 := k1'.lt
  have s2 := k3.lt
  have s3 := m3.size
  have s4 : g2 < W2.heap.size := cell_lt hx2.c0
  have hb6 : Below w.heap.size w W4 := ((hb4.trans (hb5.mono hb4.size)).trans (m4.toBelow (by have := hb4.size; have := hb5.size; omega) (fun _ _ h => h))).trans (m5.toBelow (by have := hb4.size; have := hb5.size; have := m4.size; omega) (fun k hk e => by have := hb4.size; have := hb5.size; omega))
  have z1 := (((k1'.mv m3 (fun h => h)).mv m4 (fun h => h)).mv m5 (by omega)).c
  have z2 := (((k3.mv m3 (fun h => h)).mv m4 (fun h => h)).mv m5 (by omega)).c
  have z3 := (((hx2.mv m3 (fun h => h)).mv m4 (fun h => h)).mv m5 (by omega)).c2
  simp only [stK, Nat.zero_mul, Nat.add_zero, Nat.zero_add] at z3
  clear s1 s2 s3 s4
  go_wp2_with (first | rw [hW3] | rw [hW4])
  go_ret
  exact ⟨rfl, hb6⟩
end Go.Proofs.YtmoafagemdnifaaDoor
