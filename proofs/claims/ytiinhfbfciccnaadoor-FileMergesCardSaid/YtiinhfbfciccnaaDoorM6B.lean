/- The contract of FileMerges's second closure. -/
import Derived.Test.YtiinhfbfciccnaaDoorM5B
namespace Go.Proofs.YtiinhfbfciccnaaDoor
open Go.RowKit Go.Shelf
set_option maxRecDepth 100000 in
set_option maxHeartbeats 4000000 in
theorem merges2_any (B pa : Nat) (y : ByteArray) (v : Value) (acc : List ByteArray) (W : World) (hB : B ≤ W.heap.size) (hpa : pa < B) (ca : Cl pa v W) (ho : W.ownsRow B 9 1 v acc.length (acc.map Value.string)) (hal : acc.length ≤ 250) :
    Calls Tryd.prog 20 #[.string y, .pointer (some ⟨pa, 0, none⟩)] W fun e W' => e = .returned (.bool true) ∧ ∃ v', Cl pa v' W' ∧ W'.ownsRow B 9 1 v' (acc.length + 1) ((acc ++ [y]).map Value.string) ∧ Mv (Td B pa) W W' := by
  obtain ⟨j0, jinf, jz0, jz1, jz2⟩ := info_parts infoS
  have a0 := ca.c
  have hr1 := ho.alloc (.cells #[.string y] 9)
  go_enter Tryd.func20, Tryd.ntmps20
  go_wp2_with (at_builtin; refine wpList_append_own_at _ rfl _ _ 38 rfl B 9 j0 (.string ⟨#[]⟩) 1 16 Tryd.underlying38 jinf jz0 jz1 jz2 rfl (by decide) _ _ _ rfl hr1 ⟨W.heap.size, 0, none⟩ 1 1 [.string y] rfl rfl (row_news1 W _ _) (fun x hx => by simp at hx; subst hx; rfl) (by unfold maxLen; omega) (by omega) (by simp; omega) ?_)
  intro v' w4 hown' hgrow _ _
  have mg : Mv (fun k => v.ownBlock = some k) W w4 := (Mv.alloc _ _ _).grown hgrow (fun k e => .inl e)
  have nb : ∀ k, k < B → ¬ v.ownBlock = some k := fun k hk e => by have := (ho.lt k e).1; omega
  have c4 := ca.mv mg (nb _ hpa)
  have mset : Mv (fun k => k = pa) w4 (w4.setCell ⟨pa, 0, none⟩ v') := Mv.set1 (E := fun k => k = pa) rfl _
  obtain ⟨w5, hw5⟩ : ∃ w5, w4.setCell ⟨pa, 0, none⟩ v' = w5 := ⟨_, rfl⟩
  have c5 := c4.set v'
  rw [hw5] at c5 mset
  have h4 : ∀ k, v'.ownBlock = some k → B ≤ k := fun k hk => (hown'.lt k hk).1
  have ho5 := own_mv hown' mset (fun g hg e => by have := h4 g hg; omega)
  have m5 : Mv (Td B pa) W w5 := (mg.mono (fun k _ e => .inr (ho.lt k e).1)).trans' (mset.mono (fun k _ e => .inl e))
  obtain ⟨gg, cap', rfl⟩ := ownsRow_succ hown'
  have g0 := c4.c
  have g1 := c4.f
  have g2 := c5.c
  have hlI : ((acc.length : Int) + 1) ≤ 300 := by omega
  go_wp2_with (rw [hw5])
  go_ret
  exact ⟨rfl, _, c5, by simpa using ho5, m5⟩
end Go.Proofs.YtiinhfbfciccnaaDoor
