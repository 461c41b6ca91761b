/- Contracts of the law's own closure, and of slices.Values's iterator over it. -/
import Derived.Test.YtcihilaofehomaaDoorR8
namespace Go.Proofs.YtcihilaofehomaaDoor
open Go.RowKit Lin
/-- The territory of the closure: its own variable, and what is new. -/
def Tc (B pa k : Nat) : Prop := k = pa ∨ B ≤ k
set_option maxRecDepth 100000 in
set_option maxHeartbeats 4000000 in
theorem reads1_any (B pa ps pm kd nm M cm : Nat) (st : Int) (am : Option Addr) (K V : ByteArray) (v : Value) (acc : List Ln) (W : World) (hB : B ≤ W.heap.size) (hpa : pa < B) (hps : ps < B) (hpm : pm < B) (n1 : ps ≠ pa) (n2 : pm ≠ pa) (ca : Cl pa v W) (cs : W.cell? ⟨ps, 0, none⟩ = some (.int .i64 st)) (cm' : W.cell? ⟨pm, 0, none⟩ = some (.slice am M cm)) (ho : W.ownsRow B 34 4 v acc.length (lnsC acc)) (hal : acc.length ≤ 5000) (hM : acc.length + 1 ≤ M) :
    Calls Tryd.prog 14 #[.agg #[.int .i64 kd, .string K, .string V, .int .i64 nm], .pointer (some ⟨pa, 0, none⟩), .pointer (some ⟨ps, 0, none⟩), .pointer (some ⟨pm, 0, none⟩)] W fun e W' => e = .returned (.bool (decide (((acc.length + 1 : Nat) : Int) ≠ st))) ∧ ∃ v', Cl pa v' W' ∧ W'.ownsRow B 34 4 v' (acc.length + 1) (lnsC (acc ++ [(kd, K.data.toList, V.data.toList, nm)])) ∧ Mv (Tc B pa) W W' := by
  obtain ⟨i0, hinf, hz0, hz1, hz2⟩ := info_parts infoL
  have hcl : Hid (lnsC (acc ++ [(kd, K.data.toList, V.data.toList, nm)]) = lnsC acc ++ [.int .i64 kd, .string K, .string V, .int .i64 nm]) := by
    show _ = _
    rw [lnsC_snoc]
    show _ ++ [Value.int .i64 kd, .string ⟨K.data.toList.toArray⟩, .string ⟨V.data.toList.toArray⟩, .int .i64 nm] = _
    rw [Lib.mk_data, Lib.mk_data]
  obtain ⟨W1, hW1⟩ : ∃ W1, W.alloc (.cells #[.int .i64 kd, .string K, .string V, .int .i64 nm] 34) = W1 := ⟨_, rfl⟩
  have m1 : ∀ F, Mv F W W1 := fun F => by rw [← hW1]; exact Mv.alloc _ _ _
  have hBW : B ≤ W1.heap.size := by have := (m1 (fun _ => False)).size; omega
  have x0 : W1.cell? ⟨W.heap.size, 0, none⟩ = some (.int .i64 kd) := by rw [← hW1]; exact cell_at rfl rfl
  have x1 : W1.cell? ⟨W.heap.size, 1, none⟩ = some (.string K) := by rw [← hW1]; exact cell_at rfl rfl
  have x2 : W1.cell? ⟨W.heap.size, 2, none⟩ = some (.string V) := by rw [← hW1]; exact cell_at rfl rfl
  have x3 : W1.cell? ⟨W.heap.size, 3, none⟩ = some (.int .i64 nm) := by rw [← hW1]; exact cell_at rfl rfl
  have ca1 := ca.mv (m1 (fun _ => False)) (fun h => h)
  have a0 := ca1.c
  have ho1 := own_mv ho (m1 (fun _ => False)) (fun _ _ h => h)
  have hr1 := ho1.alloc (.cells #[.int .i64 kd, .string K, .string V, .int .i64 nm] 34)
  have hM' : ((acc.length + 1 : Nat) : Int) ≤ (M : Int) := by omega
  go_enter Tryd.func14, Tryd.ntmps14
  go_wp2_with (first | rw [hW1] | (at_builtin; refine wpList_append_own_at _ rfl _ _ 23 rfl B 34 i0 (.agg #[.int .i64 0, .string ⟨#[]⟩, .string ⟨#[]⟩, .int .i64 0]) 4 48 Tryd.underlying23 hinf hz0 hz1 hz2 rfl (by decide) _ _ _ rfl hr1 ⟨W1.heap.size, 0, none⟩ 1 1 [.int .i64 kd, .string K, .string V, .int .i64 nm] rfl rfl (four_new W1 _ _ _ _ _) (fun x hx => by simp at hx; rcases hx with rfl | rfl | rfl | rfl <;> rfl) (by unfold maxLen; omega) (by omega) (by simp; omega) ?_))
  intro v' w4 hown' hgrow _ _
  have mg : Mv (fun k => v.ownBlock = some k) W w4 := ((m1 _).trans' (Mv.alloc _ _ _)).grown hgrow (fun k e => .inl e)
  have nb : ∀ k, k < B → ¬ v.ownBlock = some k := fun k hk e => by have := (ho.lt k e).1; omega
  have c4 := ca.mv mg (nb _ hpa)
  have s4 := mg.cell (nb _ hps) cs
  have l4 := mg.cell (nb _ hpm) cm'
  have mset : Mv (fun k => k = pa) w4 (w4.setCell ⟨pa, 0, none⟩ v') := Mv.set1 (E := fun k => k = pa) rfl _
  obtain ⟨w5, hw5⟩ : ∃ w5, w4.setCell ⟨pa, 0, none⟩ v' = w5 := ⟨_, rfl⟩
  have c5 := c4.set v'
  rw [hw5] at c5 mset
  have s5 := mset.cell n1 s4
  have l5 := mset.cell n2 l4
  have h4 : ∀ k, v'.ownBlock = some k → B ≤ k := fun k hk => (hown'.lt k hk).1
  have ho5 := own_mv hown' mset (fun g hg e => by have := h4 g hg; omega)
  have m5 : Mv (Tc B pa) W w5 := (mg.mono (fun k _ e => .inr (ho.lt k e).1)).trans' (mset.mono (fun k _ e => .inl e))
  obtain ⟨gg, cap', rfl⟩ := ownsRow_succ hown'
  have g0 := c4.c
  have g1 := c4.f
  have g2 := c5.c
  by_cases hst : ((acc.length : Int) + 1) = st
  · have hst' : (((acc.length : Int) + 1) == st) = true := by simpa using hst
    have hst2 : (((acc.length : Int) + 1) != st) = false := by simpa using hst
    have hfin : Hid (decide (((acc.length + 1 : Nat) : Int) ≠ st) = false) := by show _ = _; simp; omega
    clear hst
    go_wp2_with (rw [hw5])
    go_ret
    exact ⟨ret_bool hfin.out.symm, _, c5, by rw [hcl.out]; exact ho5, m5⟩
  · have hst' : (((acc.length : Int) + 1) == st) = false := by simpa using hst
    have hst2 : (((acc.length : Int) + 1) != st) = true := by simpa using hst
    have hfin : Hid (decide (((acc.length + 1 : Nat) : Int) ≠ st) = true) := by show _ = _; simp; omega
    have hM2 : (acc.length : Int) + 1 ≤ (M : Int) := by omega
    go_wp2_with (rw [hw5])
    go_ret
    exact ⟨ret_bool hfin.out.symm, _, c5, by rw [hcl.out]; exact ho5, m5⟩
end Go.Proofs.YtcihilaofehomaaDoor
