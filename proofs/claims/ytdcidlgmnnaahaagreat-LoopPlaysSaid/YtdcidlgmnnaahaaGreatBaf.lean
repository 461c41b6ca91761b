import Derived.Test.YtdcidlgmnnaahaaGreatBae
import Derived.Test.YtdcidlgmnnaahaaGreatBac
import Derived.Test.YtdcidlgmnnaahaaGreatBab
import Derived.DeepKeys4
import Derived.StringKeys
import Derived.Maps.RangeWalk
/- The two orders of a loop. -/
namespace Go.Proofs.YtdcidlgmnnaahaaGreat
open Go.RowKit Go.Shelf Go.Lib
attribute [local go_sem] Oper.semAt_some
set_option maxRecDepth 100000 in
set_option maxHeartbeats 4000000 in
theorem earlier_any (a b : Wt) (w : World) : Calls Tryz.prog 26 #[.agg #[.int .i64 a.k, .int .i64 a.p, .int .i64 a.s, .string a.u, .string a.x, .int .i64 a.n], .agg #[.int .i64 b.k, .int .i64 b.p, .int .i64 b.s, .string b.u, .string b.x, .int .i64 b.n]] w fun e w' => e = .returned (.bool (decide (keyW a < keyW b))) ∧ Below w.heap.size w w' := by
  obtain ⟨n, hn⟩ : ∃ n, w.heap.size = n := ⟨_, rfl⟩
  obtain ⟨W0, hW0⟩ : ∃ W0, (w.alloc (.cells #[.int .i64 a.k, .int .i64 a.p, .int .i64 a.s, .string a.u, .string a.x, .int .i64 a.n] 61)).alloc (.cells #[.int .i64 b.k, .int .i64 b.p, .int .i64 b.s, .string b.u, .string b.x, .int .i64 b.n] 61) = W0 := ⟨_, rfl⟩
  have b0 : Below w.heap.size w W0 := by rw [← hW0]; exact ((Below.refl _ _).alloc (Nat.le_refl _) _).alloc (by simp) _
  have s0 : W0.heap.size = n + 2 := by rw [← hW0]; simp [hn]
  have ka : ∀ j u, #[.int .i64 a.k, .int .i64 a.p, .int .i64 a.s, .string a.u, .string a.x, .int .i64 a.n][j]? = some u → W0.cell? ⟨n, j, none⟩ = some u := fun j u hj => by rw [← hW0]; exact (Mv.alloc (fun _ => False) _ _).cell (fun h => h) (cell_at hn hj)
  have kb : ∀ j u, #[.int .i64 b.k, .int .i64 b.p, .int .i64 b.s, .string b.u, .string b.x, .int .i64 b.n][j]? = some u → W0.cell? ⟨n + 1, j, none⟩ = some u := fun j u hj => by rw [← hW0]; exact cell_at (by simp [hn]) hj
  have hS : (W0.drew.cell? ⟨n, 0, none⟩ = some (.int .i64 a.k) ∧ W0.drew.cell? ⟨n, 5, none⟩ = some (.int .i64 a.n)) ∧ (W0.drew.cell? ⟨(n + 1), 0, none⟩ = some (.int .i64 b.k) ∧ W0.drew.cell? ⟨(n + 1), 5, none⟩ = some (.int .i64 b.n)) := ⟨⟨ka 0 _ rfl, ka 5 _ rfl⟩, ⟨kb 0 _ rfl, kb 5 _ rfl⟩⟩
  obtain ⟨r0, hr0⟩ : ∃ r, sg a.k b.k = r := ⟨_, rfl⟩
  obtain ⟨r1, hr1⟩ : ∃ r, sg a.n b.n = r := ⟨_, rfl⟩
  obtain ⟨r, hr⟩ : ∃ r, fz [r0, r1] = r := ⟨_, rfl⟩
  have fin : Hid (Ending.returned (.bool (decide (r < 0))) = .returned (.bool (decide (keyW a < keyW b)))) := by
    show _ = _
    rw [← ahead_W a b, ← hr, ← hr0, ← hr1]
  obtain ⟨A, hA⟩ : ∃ A, W0.drew.alloc (.cells #[.int .i64 r0, .int .i64 r1] 3) = A := ⟨_, rfl⟩
  have bA : Below w.heap.size w A := by rw [← hA]; exact b0.drew.alloc (by have := b0.size; simpa using this) _
  have hS1 : (A.cell? ⟨n, 0, none⟩ = some (.int .i64 a.k) ∧ A.cell? ⟨n, 5, none⟩ = some (.int .i64 a.n)) ∧ (A.cell? ⟨(n + 1), 0, none⟩ = some (.int .i64 b.k) ∧ A.cell? ⟨(n + 1), 5, none⟩ = some (.int .i64 b.n)) := by
    have f : ∀ {k j : Nat} {v : Value}, W0.drew.cell? ⟨k, j, none⟩ = some v → A.cell? ⟨k, j, none⟩ = some v := fun {k j v} c => by rw [← hA]; exact (Mv.alloc (fun _ => False) _ _).cell (fun h => h) c
    exact ⟨⟨f hS.1.1, f hS.1.2⟩, ⟨f hS.2.1, f hS.2.2⟩⟩
  have hC0 : Hid (∀ W, Calls Tryz.prog 44 #[.int .i64 a.k, .int .i64 b.k] W fun e w' => e = .returned (.int .i64 r0) ∧ w' = W) := fun W => by rw [← hr0]; exact cmpI _ _ W
  have hC1 : Hid (∀ W, Calls Tryz.prog 44 #[.int .i64 a.n, .int .i64 b.n] W fun e w' => e = .returned (.int .i64 r1) ∧ w' = W) := fun W => by rw [← hr1]; exact cmpI _ _ W
  have hO : Hid (Calls Tryz.prog 43 #[.slice (some ⟨W0.heap.size, 0, none⟩) 2 2] A fun e w' => e = .returned (.int .i64 r) ∧ w' = A) := by
    rw [← hr]
    refine or_any [r0, r1] W0.heap.size 2 A (fun j x hj => ?_) (by simp)
    rw [← hA]
    have hj' : #[Value.int .i64 r0, Value.int .i64 r1][j]? = some (.int .i64 x) := by
      match j, hj with
      | 0, hj => simp at hj; subst hj; rfl
      | 1, hj => simp at hj; subst hj; rfl
      | j + 2, hj => simp at hj
    exact cell_at (by simp) hj'
  clear hr0 hr1 hr s0 ka kb
  have bAH := hidP bA
  clear bA b0
  go_enter Tryz.func26, Tryz.ntmps26
  go_wp2_with (rw [hW0])
  refine Zs.region (S := fun W => (W.cell? ⟨n, 0, none⟩ = some (.int .i64 a.k) ∧ W.cell? ⟨n, 5, none⟩ = some (.int .i64 a.n)) ∧ (W.cell? ⟨(n + 1), 0, none⟩ = some (.int .i64 b.k) ∧ W.cell? ⟨(n + 1), 5, none⟩ = some (.int .i64 b.n))) 15 (by kernel_rfl) ?_
  refine Zs.pure (i := 0) (oi := ⟨some 5, _, _, _, _, _⟩) (v := ?v0) rfl (by kernel_rfl) (by kernel_rfl) (by kernel_rfl) (by decide) (fun _ _ _ h => h) (Or.inl ⟨by rfl, ?hy0⟩) hS ?_
  case hy0 => (intro w hSw; (try dsimp only at hSw); go_simp; try with_reducible rfl)
  simp only [Act.put, List.setIfInBounds_toArray, List.set_cons_zero, List.set_cons_succ]
  refine Zs.pure (i := 1) (oi := ⟨some 6, _, _, _, _, _⟩) (v := ?v1) rfl (by kernel_rfl) (by kernel_rfl) (by kernel_rfl) (by decide) (fun _ _ _ h => h) (Or.inl ⟨by rfl, ?hy1⟩) hS ?_
  case hy1 => (intro w hSw; (try dsimp only at hSw); go_simp; try with_reducible rfl)
  simp only [Act.put, List.setIfInBounds_toArray, List.set_cons_zero, List.set_cons_succ]
  refine Zs.take (i := 2) (oi := ⟨some 7, _, _, _, _, _⟩) (v := .int .i64 a.k) rfl (by kernel_rfl) (by kernel_rfl) (by kernel_rfl) (by decide) (by kernel_rfl) (by kernel_rfl) (fun _ _ _ h => h) (Or.inl ⟨by rfl, ?hy2⟩) hS ?_
  case hy2 => (intro w hSw; (try dsimp only at hSw); go_simp; try with_reducible rfl)
  simp only [Act.put, List.setIfInBounds_toArray, List.set_cons_zero, List.set_cons_succ]
  refine Zs.pure (i := 3) (oi := ⟨some 8, _, _, _, _, _⟩) (v := ?v3) rfl (by kernel_rfl) (by kernel_rfl) (by kernel_rfl) (by decide) (fun _ _ _ h => h) (Or.inl ⟨by rfl, ?hy3⟩) hS ?_
  case hy3 => (intro w hSw; (try dsimp only at hSw); go_simp; try with_reducible rfl)
  simp only [Act.put, List.setIfInBounds_toArray, List.set_cons_zero, List.set_cons_succ]
  refine Zs.pure (i := 4) (oi := ⟨some 9, _, _, _, _, _⟩) (v := ?v4) rfl (by kernel_rfl) (by kernel_rfl) (by kernel_rfl) (by decide) (fun _ _ _ h => h) (Or.inl ⟨by rfl, ?hy4⟩) hS ?_
  case hy4 => (intro w hSw; (try dsimp only at hSw); go_simp; try with_reducible rfl)
  simp only [Act.put, List.setIfInBounds_toArray, List.set_cons_zero, List.set_cons_succ]
  refine Zs.take (i := 5) (oi := ⟨some 10, _, _, _, _, _⟩) (v := .int .i64 b.k) rfl (by kernel_rfl) (by kernel_rfl) (by kernel_rfl) (by decide) (by kernel_rfl) (by kernel_rfl) (fun _ _ _ h => h) (Or.inl ⟨by rfl, ?hy5⟩) hS ?_
  case hy5 => (intro w hSw; (try dsimp only at hSw); go_simp; try with_reducible rfl)
  simp only [Act.put, List.setIfInBounds_toArray, List.set_cons_zero, List.set_cons_succ]
  refine Zs.pure (i := 7) (oi := ⟨some 12, _, _, _, _, _⟩) (v := ?v7) rfl (by kernel_rfl) (by kernel_rfl) (by kernel_rfl) (by decide) (fun _ _ _ h => h) (Or.inl ⟨by rfl, ?hy7⟩) hS ?_
  case hy7 => (intro w hSw; (try dsimp only at hSw); go_simp; try with_reducible rfl)
  simp only [Act.put, List.setIfInBounds_toArray, List.set_cons_zero, List.set_cons_succ]
  refine Zs.take (i := 8) (oi := ⟨some 13, _, _, _, _, _⟩) (v := .int .i64 a.n) rfl (by kernel_rfl) (by kernel_rfl) (by kernel_rfl) (by decide) (by kernel_rfl) (by kernel_rfl) (fun _ _ _ h => h) (Or.inl ⟨by rfl, ?hy8⟩) hS ?_
  case hy8 => (intro w hSw; (try dsimp only at hSw); go_simp; try with_reducible rfl)
  simp only [Act.put, List.setIfInBounds_toArray, List.set_cons_zero, List.set_cons_succ]
  refine Zs.pure (i := 9) (oi := ⟨some 14, _, _, _, _, _⟩) (v := ?v9) rfl (by kernel_rfl) (by kernel_rfl) (by kernel_rfl) (by decide) (fun _ _ _ h => h) (Or.inl ⟨by rfl, ?hy9⟩) hS ?_
  case hy9 => (intro w hSw; (try dsimp only at hSw); go_simp; try with_reducible rfl)
  simp only [Act.put, List.setIfInBounds_toArray, List.set_cons_zero, List.set_cons_succ]
  refine Zs.take (i := 10) (oi := ⟨some 15, _, _, _, _, _⟩) (v := .int .i64 b.n) rfl (by kernel_rfl) (by kernel_rfl) (by kernel_rfl) (by decide) (by kernel_rfl) (by kernel_rfl) (fun _ _ _ h => h) (Or.inl ⟨by rfl, ?hy10⟩) hS ?_
  case hy10 => (intro w hSw; (try dsimp only at hSw); go_simp; try with_reducible rfl)
  simp only [Act.put, List.setIfInBounds_toArray, List.set_cons_zero, List.set_cons_succ]
  refine Zs.one (i := 6) (oi := ⟨some 11, _, _, _, _, _⟩) (by kernel_rfl) rfl (fun K hK => ?_)
  go_simp
  refine (hC0.out _).mono ?_
  rintro e V1 ⟨rfl, rfl⟩
  go_wp2_with fail
  refine hK.out _ _ (fun _ => hS) ?_
  clear hK K
  try simp only [Act.put, List.setIfInBounds_toArray, List.set_cons_zero, List.set_cons_succ]
  refine Zs.one (i := 11) (oi := ⟨some 16, _, _, _, _, _⟩) (by kernel_rfl) rfl (fun K hK => ?_)
  go_simp
  refine (hC1.out _).mono ?_
  rintro e V1 ⟨rfl, rfl⟩
  go_wp2_with fail
  refine hK.out _ _ (fun _ => hS) ?_
  clear hK K
  try simp only [Act.put, List.setIfInBounds_toArray, List.set_cons_zero, List.set_cons_succ]
  refine Zs.one (i := 12) (oi := ⟨some 17, _, _, _, _, _⟩) (by kernel_rfl) rfl (fun K hK => ?_)
  go_simp
  refine hK.out _ _ (fun _ => hS1) ?_
  clear hK K
  try simp only [Act.put, List.setIfInBounds_toArray, List.set_cons_zero, List.set_cons_succ]
  refine Zs.one (i := 13) (oi := ⟨some 18, _, _, _, _, _⟩) (by kernel_rfl) rfl (fun K hK => ?_)
  go_simp
  refine hO.out.mono ?_
  rintro e V1 ⟨rfl, rfl⟩
  go_wp2_with fail
  refine hK.out _ _ (fun _ => hS1) ?_
  clear hK K
  try simp only [Act.put, List.setIfInBounds_toArray, List.set_cons_zero, List.set_cons_succ]
  refine Zs.pure (i := 14) (oi := ⟨some 19, _, _, _, _, _⟩) (v := ?v14) rfl (by kernel_rfl) (by kernel_rfl) (by kernel_rfl) (by decide) (fun _ _ _ h => h) (Or.inl ⟨by rfl, ?hy14⟩) hS1 ?_
  case hy14 => (intro w hSw; (try dsimp only at hSw); go_simp; try with_reducible rfl)
  simp only [Act.put, List.setIfInBounds_toArray, List.set_cons_zero, List.set_cons_succ]
  refine Zs.one (i := 15) (oi := ⟨some 4, _, _, _, _, _⟩) (by kernel_rfl) rfl (fun K hK => ?_)
  go_simp
  refine hK.out _ _ (fun q => absurd q (by decide)) ?_
  clear hK K
  try simp only [Act.put, List.setIfInBounds_toArray, List.set_cons_zero, List.set_cons_succ]
  refine Zs.done (by kernel_rfl) ?_ _
  go_wp2_with fail
  go_ret
  exact ⟨fin.out, bAH.out⟩
set_option maxRecDepth 100000 in
set_option maxHeartbeats 4000000 in
theorem sooner_any (a b : Du) (w : World) : Calls Tryz.prog 51 #[.agg #[.string a.u, .string a.w, .int .i64 a.t], .agg #[.string b.u, .string b.w, .int .i64 b.t]] w fun e w' => e = .returned (.bool (decide (keyD a < keyD b))) ∧ Below w.heap.size w w' := by
  obtain ⟨n, hn⟩ : ∃ n, w.heap.size = n := ⟨_, rfl⟩
  obtain ⟨W0, hW0⟩ : ∃ W0, (w.alloc (.cells #[.string a.u, .string a.w, .int .i64 a.t] 68)).alloc (.cells #[.string b.u, .string b.w, .int .i64 b.t] 68) = W0 := ⟨_, rfl⟩
  have b0 : Below w.heap.size w W0 := by rw [← hW0]; exact ((Below.refl _ _).alloc (Nat.le_refl _) _).alloc (by simp) _
  have s0 : W0.heap.size = n + 2 := by rw [← hW0]; simp [hn]
  have ka : ∀ j u, #[.string a.u, .string a.w, .int .i64 a.t][j]? = some u → W0.cell? ⟨n, j, none⟩ = some u := fun j u hj => by rw [← hW0]; exact (Mv.alloc (fun _ => False) _ _).cell (fun h => h) (cell_at hn hj)
  have kb : ∀ j u, #[.string b.u, .string b.w, .int .i64 b.t][j]? = some u → W0.cell? ⟨n + 1, j, none⟩ = some u := fun j u hj => by rw [← hW0]; exact cell_at (by simp [hn]) hj
  have hS : (W0.drew.cell? ⟨n, 2, none⟩ = some (.int .i64 a.t) ∧ W0.drew.cell? ⟨n, 0, none⟩ = some (.string a.u) ∧ W0.drew.cell? ⟨n, 1, none⟩ = some (.string a.w)) ∧ (W0.drew.cell? ⟨(n + 1), 2, none⟩ = some (.int .i64 b.t) ∧ W0.drew.cell? ⟨(n + 1), 0, none⟩ = some (.string b.u) ∧ W0.drew.cell? ⟨(n + 1), 1, none⟩ = some (.string b.w)) := ⟨⟨ka 2 _ rfl, ka 0 _ rfl, ka 1 _ rfl⟩, ⟨kb 2 _ rfl, kb 0 _ rfl, kb 1 _ rfl⟩⟩
  obtain ⟨r0, hr0⟩ : ∃ r, sg a.t b.t = r := ⟨_, rfl⟩
  obtain ⟨r1, hr1⟩ : ∃ r, sgS a.u b.u = r := ⟨_, rfl⟩
  obtain ⟨r2, hr2⟩ : ∃ r, sgS a.w b.w = r := ⟨_, rfl⟩
  obtain ⟨r, hr⟩ : ∃ r, fz [r0, r1, r2] = r := ⟨_, rfl⟩
  have fin : Hid (Ending.returned (.bool (decide (r < 0))) = .returned (.bool (decide (keyD a < keyD b)))) := by
    show _ = _
    rw [← ahead_D a b, ← hr, ← hr0, ← hr1, ← hr2]
  obtain ⟨A, hA⟩ : ∃ A, W0.drew.alloc (.cells #[.int .i64 r0, .int .i64 r1, .int .i64 r2] 3) = A := ⟨_, rfl⟩
  have bA : Below w.heap.size w A := by rw [← hA]; exact b0.drew.alloc (by have := b0.size; simpa using this) _
  have hS1 : (A.cell? ⟨n, 2, none⟩ = some (.int .i64 a.t) ∧ A.cell? ⟨n, 0, none⟩ = some (.string a.u) ∧ A.cell? ⟨n, 1, none⟩ = some (.string a.w)) ∧ (A.cell? ⟨(n + 1), 2, none⟩ = some (.int .i64 b.t) ∧ A.cell? ⟨(n + 1), 0, none⟩ = some (.string b.u) ∧ A.cell? ⟨(n + 1), 1, none⟩ = some (.string b.w)) := by
    have f : ∀ {k j : Nat} {v : Value}, W0.drew.cell? ⟨k, j, none⟩ = some v → A.cell? ⟨k, j, none⟩ = some v := fun {k j v} c => by rw [← hA]; exact (Mv.alloc (fun _ => False) _ _).cell (fun h => h) c
    exact ⟨⟨f hS.1.1, f hS.1.2.1, f hS.1.2.2⟩, ⟨f hS.2.1, f hS.2.2.1, f hS.2.2.2⟩⟩
  have hC0 : Hid (∀ W, Calls Tryz.prog 65 #[.int .i64 a.t, .int .i64 b.t] W fun e w' => e = .returned (.int .i64 r0) ∧ w' = W) := fun W => by rw [← hr0]; exact cmpL _ _ W
  have hC1 : Hid (∀ W, Calls Tryz.prog 66 #[.string a.u, .string b.u] W fun e w' => e = .returned (.int .i64 r1) ∧ w' = W) := fun W => by rw [← hr1]; exact cmpS _ _ W
  have hC2 : Hid (∀ W, Calls Tryz.prog 66 #[.string a.w, .string b.w] W fun e w' => e = .returned (.int .i64 r2) ∧ w' = W) := fun W => by rw [← hr2]; exact cmpS _ _ W
  have hO : Hid (Calls Tryz.prog 43 #[.slice (some ⟨W0.heap.size, 0, none⟩) 3 3] A fun e w' => e = .returned (.int .i64 r) ∧ w' = A) := by
    rw [← hr]
    refine or_any [r0, r1, r2] W0.heap.size 3 A (fun j x hj => ?_) (by simp)
    rw [← hA]
    have hj' : #[Value.int .i64 r0, Value.int .i64 r1, Value.int .i64 r2][j]? = some (.int .i64 x) := by
      match j, hj with
      | 0, hj => simp at hj; subst hj; rfl
      | 1, hj => simp at hj; subst hj; rfl
      | 2, hj => simp at hj; subst hj; rfl
      | j + 3, hj => simp at hj
    exact cell_at (by simp) hj'
  clear hr0 hr1 hr2 hr s0 ka kb
  have bAH := hidP bA
  clear bA b0
  go_enter Tryz.func51, Tryz.ntmps51
  go_wp2_with (rw [hW0])
  refine Zs.region (S := fun W => (W.cell? ⟨n, 2, none⟩ = some (.int .i64 a.t) ∧ W.cell? ⟨n, 0, none⟩ = some (.string a.u) ∧ W.cell? ⟨n, 1, none⟩ = some (.string a.w)) ∧ (W.cell? ⟨(n + 1), 2, none⟩ = some (.int .i64 b.t) ∧ W.cell? ⟨(n + 1), 0, none⟩ = some (.string b.u) ∧ W.cell? ⟨(n + 1), 1, none⟩ = some (.string b.w))) 18 (by kernel_rfl) ?_
  refine Zs.pure (i := 0) (oi := ⟨some 5, _, _, _, _, _⟩) (v := ?v0) rfl (by kernel_rfl) (by kernel_rfl) (by kernel_rfl) (by decide) (fun _ _ _ h => h) (Or.inl ⟨by rfl, ?hy0⟩) hS ?_
  case hy0 => (intro w hSw; (try dsimp only at hSw); go_simp; try with_reducible rfl)
  simp only [Act.put, List.setIfInBounds_toArray, List.set_cons_zero, List.set_cons_succ]
  refine Zs.take (i := 1) (oi := ⟨some 6, _, _, _, _, _⟩) (v := .int .i64 a.t) rfl (by kernel_rfl) (by kernel_rfl) (by kernel_rfl) (by decide) (by kernel_rfl) (by kernel_rfl) (fun _ _ _ h => h) (Or.inl ⟨by rfl, ?hy1⟩) hS ?_
  case hy1 => (intro w hSw; (try dsimp only at hSw); go_simp; try with_reducible rfl)
  simp only [Act.put, List.setIfInBounds_toArray, List.set_cons_zero, List.set_cons_succ]
  refine Zs.pure (i := 2) (oi := ⟨some 7, _, _, _, _, _⟩) (v := ?v2) rfl (by kernel_rfl) (by kernel_rfl) (by kernel_rfl) (by decide) (fun _ _ _ h => h) (Or.inl ⟨by rfl, ?hy2⟩) hS ?_
  case hy2 => (intro w hSw; (try dsimp only at hSw); go_simp; try with_reducible rfl)
  simp only [Act.put, List.setIfInBounds_toArray, List.set_cons_zero, List.set_cons_succ]
  refine Zs.take (i := 3) (oi := ⟨some 8, _, _, _, _, _⟩) (v := .int .i64 b.t) rfl (by kernel_rfl) (by kernel_rfl) (by kernel_rfl) (by decide) (by kernel_rfl) (by kernel_rfl) (fun _ _ _ h => h) (Or.inl ⟨by rfl, ?hy3⟩) hS ?_
  case hy3 => (intro w hSw; (try dsimp only at hSw); go_simp; try with_reducible rfl)
  simp only [Act.put, List.setIfInBounds_toArray, List.set_cons_zero, List.set_cons_succ]
  refine Zs.pure (i := 5) (oi := ⟨some 10, _, _, _, _, _⟩) (v := ?v5) rfl (by kernel_rfl) (by kernel_rfl) (by kernel_rfl) (by decide) (fun _ _ _ h => h) (Or.inl ⟨by rfl, ?hy5⟩) hS ?_
  case hy5 => (intro w hSw; (try dsimp only at hSw); go_simp; try with_reducible rfl)
  simp only [Act.put, List.setIfInBounds_toArray, List.set_cons_zero, List.set_cons_succ]
  refine Zs.take (i := 6) (oi := ⟨some 11, _, _, _, _, _⟩) (v := .string a.u) rfl (by kernel_rfl) (by kernel_rfl) (by kernel_rfl) (by decide) (by kernel_rfl) (by kernel_rfl) (fun _ _ _ h => h) (Or.inl ⟨by rfl, ?hy6⟩) hS ?_
  case hy6 => (intro w hSw; (try dsimp only at hSw); go_simp; try with_reducible rfl)
  simp only [Act.put, List.setIfInBounds_toArray, List.set_cons_zero, List.set_cons_succ]
  refine Zs.pure (i := 7) (oi := ⟨some 12, _, _, _, _, _⟩) (v := ?v7) rfl (by kernel_rfl) (by kernel_rfl) (by kernel_rfl) (by decide) (fun _ _ _ h => h) (Or.inl ⟨by rfl, ?hy7⟩) hS ?_
  case hy7 => (intro w hSw; (try dsimp only at hSw); go_simp; try with_reducible rfl)
  simp only [Act.put, List.setIfInBounds_toArray, List.set_cons_zero, List.set_cons_succ]
  refine Zs.take (i := 8) (oi := ⟨some 13, _, _, _, _, _⟩) (v := .string b.u) rfl (by kernel_rfl) (by kernel_rfl) (by kernel_rfl) (by decide) (by kernel_rfl) (by kernel_rfl) (fun _ _ _ h => h) (Or.inl ⟨by rfl, ?hy8⟩) hS ?_
  case hy8 => (intro w hSw; (try dsimp only at hSw); go_simp; try with_reducible rfl)
  simp only [Act.put, List.setIfInBounds_toArray, List.set_cons_zero, List.set_cons_succ]
  refine Zs.pure (i := 10) (oi := ⟨some 15, _, _, _, _, _⟩) (v := ?v10) rfl (by kernel_rfl) (by kernel_rfl) (by kernel_rfl) (by decide) (fun _ _ _ h => h) (Or.inl ⟨by rfl, ?hy10⟩) hS ?_
  case hy10 => (intro w hSw; (try dsimp only at hSw); go_simp; try with_reducible rfl)
  simp only [Act.put, List.setIfInBounds_toArray, List.set_cons_zero, List.set_cons_succ]
  refine Zs.take (i := 11) (oi := ⟨some 16, _, _, _, _, _⟩) (v := .string a.w) rfl (by kernel_rfl) (by kernel_rfl) (by kernel_rfl) (by decide) (by kernel_rfl) (by kernel_rfl) (fun _ _ _ h => h) (Or.inl ⟨by rfl, ?hy11⟩) hS ?_
  case hy11 => (intro w hSw; (try dsimp only at hSw); go_simp; try with_reducible rfl)
  simp only [Act.put, List.setIfInBounds_toArray, List.set_cons_zero, List.set_cons_succ]
  refine Zs.pure (i := 12) (oi := ⟨some 17, _, _, _, _, _⟩) (v := ?v12) rfl (by kernel_rfl) (by kernel_rfl) (by kernel_rfl) (by decide) (fun _ _ _ h => h) (Or.inl ⟨by rfl, ?hy12⟩) hS ?_
  case hy12 => (intro w hSw; (try dsimp only at hSw); go_simp; try with_reducible rfl)
  simp only [Act.put, List.setIfInBounds_toArray, List.set_cons_zero, List.set_cons_succ]
  refine Zs.take (i := 13) (oi := ⟨some 18, _, _, _, _, _⟩) (v := .string b.w) rfl (by kernel_rfl) (by kernel_rfl) (by kernel_rfl) (by decide) (by kernel_rfl) (by kernel_rfl) (fun _ _ _ h => h) (Or.inl ⟨by rfl, ?hy13⟩) hS ?_
  case hy13 => (intro w hSw; (try dsimp only at hSw); go_simp; try with_reducible rfl)
  simp only [Act.put, List.setIfInBounds_toArray, List.set_cons_zero, List.set_cons_succ]
  refine Zs.one (i := 4) (oi := ⟨some 9, _, _, _, _, _⟩) (by kernel_rfl) rfl (fun K hK => ?_)
  go_simp
  refine (hC0.out _).mono ?_
  rintro e V1 ⟨rfl, rfl⟩
  go_wp2_with fail
  refine hK.out _ _ (fun _ => hS) ?_
  clear hK K
  try simp only [Act.put, List.setIfInBounds_toArray, List.set_cons_zero, List.set_cons_succ]
  refine Zs.one (i := 9) (oi := ⟨some 14, _, _, _, _, _⟩) (by kernel_rfl) rfl (fun K hK => ?_)
  go_simp
  refine (hC1.out _).mono ?_
  rintro e V1 ⟨rfl, rfl⟩
  go_wp2_with fail
  refine hK.out _ _ (fun _ => hS) ?_
  clear hK K
  try simp only [Act.put, List.setIfInBounds_toArray, List.set_cons_zero, List.set_cons_succ]
  refine Zs.one (i := 14) (oi := ⟨some 19, _, _, _, _, _⟩) (by kernel_rfl) rfl (fun K hK => ?_)
  go_simp
  refine (hC2.out _).mono ?_
  rintro e V1 ⟨rfl, rfl⟩
  go_wp2_with fail
  refine hK.out _ _ (fun _ => hS) ?_
  clear hK K
  try simp only [Act.put, List.setIfInBounds_toArray, List.set_cons_zero, List.set_cons_succ]
  refine Zs.one (i := 15) (oi := ⟨some 20, _, _, _, _, _⟩) (by kernel_rfl) rfl (fun K hK => ?_)
  go_simp
  refine hK.out _ _ (fun _ => hS1) ?_
  clear hK K
  try simp only [Act.put, List.setIfInBounds_toArray, List.set_cons_zero, List.set_cons_succ]
  refine Zs.one (i := 16) (oi := ⟨some 21, _, _, _, _, _⟩) (by kernel_rfl) rfl (fun K hK => ?_)
  go_simp
  refine hO.out.mono ?_
  rintro e V1 ⟨rfl, rfl⟩
  go_wp2_with fail
  refine hK.out _ _ (fun _ => hS1) ?_
  clear hK K
  try simp only [Act.put, List.setIfInBounds_toArray, List.set_cons_zero, List.set_cons_succ]
  refine Zs.pure (i := 17) (oi := ⟨some 22, _, _, _, _, _⟩) (v := ?v17) rfl (by kernel_rfl) (by kernel_rfl) (by kernel_rfl) (by decide) (fun _ _ _ h => h) (Or.inl ⟨by rfl, ?hy17⟩) hS1 ?_
  case hy17 => (intro w hSw; (try dsimp only at hSw); go_simp; try with_reducible rfl)
  simp only [Act.put, List.setIfInBounds_toArray, List.set_cons_zero, List.set_cons_succ]
  refine Zs.one (i := 18) (oi := ⟨some 4, _, _, _, _, _⟩) (by kernel_rfl) rfl (fun K hK => ?_)
  go_simp
  refine hK.out _ _ (fun q => absurd q (by decide)) ?_
  clear hK K
  try simp only [Act.put, List.setIfInBounds_toArray, List.set_cons_zero, List.set_cons_succ]
  refine Zs.done (by kernel_rfl) ?_ _
  go_wp2_with fail
  go_ret
  exact ⟨fin.out, bAH.out⟩
theorem egF (f : Nat) (hf : ∀ args w, (callFunc f args).run Tryz.prog w = .ok (.enter f args) w) : ∀ args w, (callFunc f args).run Tryz.prog w = .ok (.enter f args) w := hf
theorem bfW (X : Nat → Option Value) : Qw.Bf ⟨26, X, .func (.func 26) #[] #[]⟩ keyW := ⟨rfl, enters_of Tryz.func26 (by kernel_rfl) rfl, fun a b w => earlier_any a b w⟩
theorem bfD (X : Nat → Option Value) : Qd.Bf ⟨51, X, .func (.func 51) #[] #[]⟩ keyD := ⟨rfl, enters_of Tryz.func51 (by kernel_rfl) rfl, fun a b w => sooner_any a b w⟩
end Go.Proofs.YtdcidlgmnnaahaaGreat
/- Timers that are set, plainly: a row by when, unit, which. -/
namespace Go.Proofs.YtdcidlgmnnaahaaGreat
/-- Whose timer, and which one. -/
abbrev TK := { p : ByteArray × ByteArray // p.1.toList.length ≤ 300 ∧ p.2.toList.length ≤ 300 }
def Du.k (d : Du) : TK := ⟨(d.u, d.w), d.hu, d.hw⟩
def mkD (k : TK) (t : Int) : Du := ⟨k.1.1, k.1.2, t, k.2.1, k.2.2⟩
theorem mkD_k (k : TK) (t : Int) : (mkD k t).k = k := rfl
theorem Du.eta (d : Du) : mkD d.k d.t = d := rfl
theorem Du.same {a b : Du} (h : a.k = b.k) (ht : a.t = b.t) : a = b := by
  rw [← a.eta, ← b.eta, h, ht]
theorem keyD_inj {a b : Du} (h : keyD a = keyD b) : a = b := by
  have h1 := keyD_less a b
  have h2 := keyD_less b a
  have eu := encU_less a.hu b.hu
  have ew := encU_less a.hw b.hw
  unfold keyD at h
  have n1 := encU_lo a.w
  have n2 := encU_hi a.w
  have n3 := encU_lo b.w
  have n4 := encU_hi b.w
  have m1 := encU_lo a.u
  have m2 := encU_hi a.u
  have m3 := encU_lo b.u
  have m4 := encU_hi b.u
  have q1 := @pair_less P300 (a.t * P300 + encU a.u) (b.t * P300 + encU b.u) (encU a.w) (encU b.w) P300_pos ⟨n1, n2⟩ ⟨n3, n4⟩
  have q2 := @pair_less P300 (b.t * P300 + encU b.u) (a.t * P300 + encU a.u) (encU b.w) (encU a.w) P300_pos ⟨n3, n4⟩ ⟨n1, n2⟩
  have r1 := @pair_less P300 a.t b.t (encU a.u) (encU b.u) P300_pos ⟨m1, m2⟩ ⟨m3, m4⟩
  have r2 := @pair_less P300 b.t a.t (encU b.u) (encU a.u) P300_pos ⟨m3, m4⟩ ⟨m1, m2⟩
  have e1 : a.t * P300 + encU a.u = b.t * P300 + encU b.u := by
    have x1 : ¬ (a.t * P300 + encU a.u < b.t * P300 + encU b.u) := fun z => by have := q1.2 (.inl z); omega
    have x2 : ¬ (b.t * P300 + encU b.u < a.t * P300 + encU a.u) := fun z => by have := q2.2 (.inl z); omega
    omega
  have e2 : encU a.w = encU b.w := by
    rw [e1] at h; omega
  have e3 : a.t = b.t := by
    have x1 : ¬ a.t < b.t := fun z => by have := r1.2 (.inl z); omega
    have x2 : ¬ b.t < a.t := fun z => by have := r2.2 (.inl z); omega
    omega
  have e4 : encU a.u = encU b.u := by rw [e3] at e1; omega
  have e5 := eu.2.1 e4
  have e6 := ew.2.1 e2
  refine Du.same (Subtype.ext ?_) e3
  show (a.u, a.w) = (b.u, b.w)
  rw [e5, e6]
theorem insA_mem {α : Type} (key : α → Int) (v y : α) : ∀ L : List α, y ∈ insA key v L ↔ (y = v ∨ y ∈ L)
  | [] => by simp [insA]
  | z :: L => by
    unfold insA
    split
    · simp
    · rw [List.mem_cons, insA_mem key v y L, List.mem_cons]
      constructor
      · rintro (h | h | h)
        · exact .inr (.inl h)
        · exact .inl h
        · exact .inr (.inr h)
      · rintro (h | h | h)
        · exact .inr (.inl h)
        · exact .inl h
        · exact .inr (.inr h)
theorem insA_perm {α : Type} (key : α → Int) (v : α) : ∀ L : List α, (insA key v L).Perm (v :: L)
  | [] => List.Perm.refl _
  | y :: L => by
    unfold insA
    split
    · exact List.Perm.refl _
    · exact ((insA_perm key v L).cons y).trans (List.Perm.swap ..)
/-- Rising strictly. -/
def So {α : Type} (key : α → Int) (L : List α) : Prop := L.Pairwise fun a b => key a < key b
theorem So.ins {α : Type} {key : α → Int} {v : α} : ∀ {L : List α}, So key L → (∀ y ∈ L, key y ≠ key v) → So key (insA key v L)
  | [], _, _ => List.pairwise_singleton _ _
  | y :: L, h, hn => by
    obtain ⟨h1, h2⟩ := List.pairwise_cons.1 h
    unfold insA
    split
    · next e =>
      refine List.pairwise_cons.2 ⟨fun z hz => ?_, h⟩
      rcases List.mem_cons.1 hz with rfl | hz
      · exact e
      · have := h1 z hz; omega
    · next e =>
      refine List.pairwise_cons.2 ⟨fun z hz => ?_, So.ins h2 fun z hz => hn z (List.mem_cons_of_mem _ hz)⟩
      rcases (insA_mem key v z L).1 hz with rfl | hz
      · have := hn y (List.mem_cons_self ..)
        omega
      · exact h1 z hz
theorem So.filter {α : Type} {key : α → Int} {L : List α} (h : So key L) (p : α → Bool) : So key (L.filter p) := List.Pairwise.filter _ h
theorem So.eq {α : Type} {key : α → Int} : ∀ {L M : List α}, So key L → So key M → (∀ x, x ∈ L ↔ x ∈ M) → L = M
  | [], [], _, _, _ => rfl
  | [], y :: M, _, _, h => by have := (h y).2 (List.mem_cons_self ..); cases this
  | x :: L, [], _, _, h => by have := (h x).1 (List.mem_cons_self ..); cases this
  | x :: L, y :: M, hL, hM, h => by
    obtain ⟨l1, l2⟩ := List.pairwise_cons.1 hL
    obtain ⟨m1, m2⟩ := List.pairwise_cons.1 hM
    have e : x = y := by
      rcases List.mem_cons.1 ((h x).1 (List.mem_cons_self ..)) with e | e
      · exact e
      · rcases List.mem_cons.1 ((h y).2 (List.mem_cons_self ..)) with f | f
        · exact f.symm
        · have := m1 x e; have := l1 y f; omega
    subst e
    rw [So.eq l2 m2 fun z => ?_]
    constructor
    · intro hz
      rcases List.mem_cons.1 ((h z).1 (List.mem_cons_of_mem _ hz)) with e | e
      · subst e; have := l1 z hz; omega
      · exact e
    · intro hz
      rcases List.mem_cons.1 ((h z).2 (List.mem_cons_of_mem _ hz)) with e | e
      · subst e; have := m1 z hz; omega
      · exact e
/-- The timers that are set: rising, each of them once. -/
structure Ts (T : List Du) : Prop where
  so : So keyD T
  dk : T.Pairwise fun a b => a.k ≠ b.k
theorem Ts.nil : Ts [] := ⟨List.Pairwise.nil, List.Pairwise.nil⟩
theorem Ts.filter {T : List Du} (h : Ts T) (p : Du → Bool) : Ts (T.filter p) := ⟨h.so.filter p, List.Pairwise.filter _ h.dk⟩
theorem Du.pw : ∀ {T : List Du}, T.Pairwise (fun a b => a.k ≠ b.k) → ∀ {a b : Du}, a ∈ T → b ∈ T → a.k = b.k → a = b
  | x :: T, h, a, b, ha, hb, e => by
    obtain ⟨h1, h2⟩ := List.pairwise_cons.1 h
    rcases List.mem_cons.1 ha with p | ha
    · rcases List.mem_cons.1 hb with q | hb
      · rw [p, q]
      · exact absurd (p ▸ e) (h1 b hb)
    · rcases List.mem_cons.1 hb with q | hb
      · exact absurd (q ▸ e).symm (h1 a ha)
      · exact Du.pw h2 ha hb e
theorem Ts.one {T : List Du} (h : Ts T) {a b : Du} (ha : a ∈ T) (hb : b ∈ T) (e : a.k = b.k) : a = b := Du.pw h.dk ha hb e
def lk (T : List Du) (k : TK) : Option Int := (T.find? fun d => decide (d.k = k)).map (·.t)
theorem lk_none {T : List Du} {k : TK} (h : ∀ d ∈ T, d.k ≠ k) : lk T k = none := by
  unfold lk
  rw [List.find?_eq_none.2 (fun d hd => by simpa using h d hd)]; rfl
theorem lk_some {T : List Du} (h : Ts T) {d : Du} (hd : d ∈ T) : lk T d.k = some d.t := by
  unfold lk
  cases e : T.find? (fun x => decide (x.k = d.k)) with
  | none => have := List.find?_eq_none.1 e d hd; simp at this
  | some x =>
    have h1 := List.mem_of_find?_eq_some e
    have h2 := List.find?_some e
    rw [h.one h1 hd (by simpa using h2)]; rfl
def delT (k : TK) (T : List Du) : List Du := T.filter fun d => !decide (d.k = k)
def setT (k : TK) (t : Int) (T : List Du) : List Du := insA keyD (mkD k t) (delT k T)
theorem delT_mem {k : TK} {T : List Du} {d : Du} : d ∈ delT k T ↔ (d ∈ T ∧ d.k ≠ k) := by unfold delT; simp
theorem Ts.del {T : List Du} (h : Ts T) (k : TK) : Ts (delT k T) := h.filter _
theorem Ts.set {T : List Du} (h : Ts T) (k : TK) (t : Int) : Ts (setT k t T) := by
  have h1 := h.del k
  refine ⟨h1.so.ins fun y hy e => ?_, ?_⟩
  · have := keyD_inj e
    exact (delT_mem.1 hy).2 (by rw [this]; rfl)
  · refine ((insA_perm keyD (mkD k t) (delT k T)).symm.pairwise_iff (fun {a b} (q : a.k ≠ b.k) => q.symm)).1 (List.pairwise_cons.2 ⟨fun y hy e => (delT_mem.1 hy).2 e.symm, h1.dk⟩)
theorem setT_mem {k : TK} {t : Int} {T : List Du} {d : Du} : d ∈ setT k t T ↔ (d = mkD k t ∨ d ∈ T ∧ d.k ≠ k) := by
  unfold setT; rw [insA_mem, delT_mem]
theorem setT_len (k : TK) (t : Int) (T : List Du) : (setT k t T).length ≤ T.length + 1 := by
  unfold setT; rw [insA_len]; unfold delT; have := List.length_filter_le (fun d : Du => !decide (d.k = k)) T; omega
/-- The least. -/
def minT : List Du → Option Int
  | [] => none
  | d :: T => match minT T with
    | none => some d.t
    | some m => some (if d.t < m then d.t else m)
end Go.Proofs.YtdcidlgmnnaahaaGreat
/- The timers that are set, in memory: a map by whose and which. -/
namespace Go.Proofs.YtdcidlgmnnaahaaGreat
open Go.RowKit Go.Shelf Go.Lib
def heldElem (v : Value) : Option (DataW Value × List MemPlace) := some (.held v, [])
def kV (k : TK) : Value := .agg #[.string k.1.1, .string k.1.2]
def eT (k : TK) : Lit := .string (keyBytes [.string k.1.1.data.toList, .string k.1.2.data.toList])
theorem laidOutT : laidOutB Tryz.prog = true := by kernel_rfl
theorem rowTm : (66 : TypeId) < Tryz.prog.types.size := of_decide_eq_true (by kernel_rfl)
theorem wideTm : (match Tryz.prog.underlying 66 with | some (.array _ _) | some (.struct _) => true | _ => false) = true := by kernel_rfl
theorem deepTm : Tryz.prog.keyTypeAt 2 66 = true := by kernel_rfl
set_option maxRecDepth 1000000 in
theorem lawT : Maps.Keyed Tryz.prog 66 := .of_law (deep_law_laid laidOutT (m := 2) (by decide) rowTm deepTm wideTm)
theorem ktype : Tryz.prog.keyType 66 = true := by kernel_rfl
theorem cellsTm : Tryz.prog.cellsOf 66 = 2 := by kernel_rfl
theorem cellsStr : Tryz.prog.cellsOf 9 = 1 := by kernel_rfl
theorem litsS (n : Nat) (s : ByteArray) (h : s.size ≤ maxLen) : Tryz.prog.keyLits (n + 1) 9 [.string s] = some [.string s.data.toList] := by
  unfold Program.keyLits
  rw [Tryz.underlying9]
  simp [h]
theorem size_of_len {s : ByteArray} (h : s.toList.length ≤ 300) : s.size ≤ 300 := by
  rw [Go.Lib.toList_data] at h
  rw [← size_list]; exact h
set_option maxRecDepth 1000000 in
theorem keyT (k : TK) : keyOf Tryz.prog 66 (kV k) = some (eT k) := by
  have h1 := size_of_len k.2.1
  have h2 := size_of_len k.2.2
  have hl := litsS
  obtain ⟨n, hn⟩ : ∃ n, Tryz.prog.types.size = n + 1 := ⟨_, (Nat.succ_pred_eq_of_pos (Nat.lt_of_le_of_lt (Nat.zero_le _) rowTm)).symm⟩
  have hf : (kV k).formed Tryz.prog 66 = true := by
    unfold kV Value.formed
    rw [Tryz.underlying66]
    simp [cellsTm]
  unfold keyOf
  have hu := Tryz.underlying66
  rw [hu]
  simp only [ktype, hf, Bool.and_self, if_true]
  have hk : Tryz.prog.keyLits (Tryz.prog.types.size + 1) 66 (kV k).cells.toList = some [.string k.1.1.data.toList, .string k.1.2.data.toList] := by
    rw [hn]
    unfold Program.keyLits
    rw [hu]
    have e1 := litsS n k.1.1 (by unfold maxLen; omega)
    have e2 := litsS n k.1.2 (by unfold maxLen; omega)
    simp [kV, Value.cells, cellsTm, cellsStr, e1, e2]
  rw [hk]; rfl
theorem kV_inj {a b : TK} (h : kV a = kV b) : a = b := by
  unfold kV at h
  injection h with h
  simp at h
  exact Subtype.ext (Prod.ext h.1 h.2)
theorem eT_inj {a b : TK} (h : eT a = eT b) : a = b := kV_inj (lawT.inj (keyT a) (h ▸ keyT b))
theorem klT (k : TK) : WideAt.IsKeyLit (eT k) := trivial
def entT (d : Du) : Lit × DataW Value := (eT d.k, .held (.int .i64 d.t))
theorem ownsMap_mv {H : Type} {P : Program} {k : TypeId} {R : Value → Option (DataW H × List MemPlace)} {w w' : World} {b n : Nat} {D : DataW H} {E : Nat → Prop} (h : w.ownsMap P k R b n D) (m : Mv E w w') (hE : ¬ E b) : w'.ownsMap P k R b n D := by
  obtain ⟨es, c, hb, q⟩ := h
  exact ⟨es, c, (m.block b (Array.getElem?_eq_some_iff.1 hb).1 hE).trans hb, q⟩
theorem ranges_mv {H : Type} {P : Program} {k : TypeId} {R : Value → Option (DataW H × List MemPlace)} {w w' : World} {b r n : Nat} {D : DataW H} {left : Lit → Bool} {cnt : Nat} {E : Nat → Prop} (h : w.ranges P k R b r n D left cnt) (m : Mv E w w') (hE : ¬ E b) (hr : ¬ E r) : w'.ranges P k R b r n D left cnt := by
  obtain ⟨es, clock, since, seen, c0, h1, h2, h3, h4, h5, h6⟩ := h
  exact ⟨es, clock, since, seen, c0, (m.block b (Array.getElem?_eq_some_iff.1 h1).1 hE).trans h1, h2, h3, h4, (m.block r (Array.getElem?_eq_some_iff.1 h5).1 hr).trans h5, h6⟩
theorem ownsMap_norm {H : Type} {P : Program} {k : TypeId} {R : Value → Option (DataW H × List MemPlace)} {w : World} {b n : Nat} {D : DataW H} (h : w.ownsMap P k R b n D) : w.ownsMap P k R b (Maps.size D) D := by
  obtain ⟨es, c, hb, F, hs, hD⟩ := h
  refine ⟨es, c, hb, F, ?_, hD⟩
  have := congrArg Maps.size hD
  rw [Maps.size_eq, length_read] at this
  omega
/-- Block b is the map of the timers T. -/
def TMb (w : World) (b : Nat) (T : List Du) : Prop := ∃ l, w.ownsMap Tryz.prog 66 heldElem b T.length (.map l) ∧ l.Perm (T.map entT)
/-- The same, or nil. -/
def TM (w : World) (v : Value) (T : List Du) : Prop := (v = .map none ∧ T = []) ∨ ∃ b, v = .map (some b) ∧ TMb w b T
def mbk : Value → Option Nat
  | .map (some b) => some b
  | _ => none
theorem TMb.lt {w : World} {b : Nat} {T : List Du} (h : TMb w b T) : b < w.heap.size := by obtain ⟨l, h, _⟩ := h; exact h.lt
theorem TMb.mv {w V : World} {b : Nat} {T : List Du} {E : Nat → Prop} (h : TMb w b T) (m : Mv E w V) (hE : ¬ E b) : TMb V b T := by
  obtain ⟨l, h1, h2⟩ := h
  exact ⟨l, ownsMap_mv h1 m hE, h2⟩
theorem TM.lt {w : World} {v : Value} {T : List Du} (h : TM w v T) {k : Nat} (hk : mbk v = some k) : k < w.heap.size := by
  rcases h with ⟨rfl, _⟩ | ⟨b, rfl, h⟩
  · cases hk
  · cases hk; exact h.lt
theorem TM.mv {w V : World} {v : Value} {T : List Du} {E : Nat → Prop} (h : TM w v T) (m : Mv E w V) (hE : ∀ k, mbk v = some k → ¬ E k) : TM V v T := by
  rcases h with h | ⟨b, rfl, h⟩
  · exact .inl h
  · exact .inr ⟨b, rfl, h.mv m (hE b rfl)⟩
theorem TMb.made (w : World) : TMb (w.alloc (.map #[] 0)) w.heap.size [] := ⟨[], World.ownsMap_made w _ _ _, List.Perm.refl _⟩
section
variable {w : World} {b : Nat} {T : List Du}
theorem mem_ent {l : List (Lit × DataW Value)} (hp : l.Perm (T.map entT)) {p : Lit × DataW Value} (h : p ∈ l) : ∃ d ∈ T, entT d = p := List.mem_map.1 (hp.mem_iff.1 h)
theorem has_lk {l : List (Lit × DataW Value)} (hT : Ts T) (hp : l.Perm (T.map entT)) (k : TK) : Maps.has (.map l) (eT k) = (lk T k).isSome := by
  rw [Maps.has_eq]
  cases e : lk T k with
  | none =>
    rw [Option.isSome_none]
    refine List.any_eq_false.2 fun p hpl hs => ?_
    obtain ⟨d, hd, rfl⟩ := mem_ent hp hpl
    have e2 : d.k = k := eT_inj (WideAt.sameKey_eq hs)
    subst e2
    rw [lk_some hT hd] at e; cases e
  | some t =>
    rw [Option.isSome_some]
    unfold lk at e
    cases f : T.find? (fun d => decide (d.k = k)) with
    | none => rw [f] at e; cases e
    | some d =>
      have h1 := List.mem_of_find?_eq_some f
      have h2 := List.find?_some f
      refine List.any_eq_true.2 ⟨entT d, hp.mem_iff.2 (List.mem_map_of_mem h1), ?_⟩
      have : d.k = k := by simpa using h2
      show (eT d.k).sameKey (eT k) = true
      rw [this]; exact WideAt.sameKey_self (klT k)
theorem at_lk {l : List (Lit × DataW Value)} (hT : Ts T) (hp : l.Perm (T.map entT)) (k : TK) (z : DataW Value) : (DataW.map l).atKey (eT k) z = match lk T k with | some t => .held (.int .i64 t) | none => z := by
  unfold DataW.atKey
  simp only
  cases f : l.find? (fun p => p.1.sameKey (eT k)) with
  | none =>
    have : lk T k = none := by
      refine lk_none fun d hd e => ?_
      have := List.find?_eq_none.1 f (entT d) (hp.mem_iff.2 (List.mem_map_of_mem hd))
      refine this ?_
      show (eT d.k).sameKey (eT k) = true
      rw [e]; exact WideAt.sameKey_self (klT k)
    rw [this]
  | some p =>
    have h1 := List.mem_of_find?_eq_some f
    have h2 := List.find?_some f
    obtain ⟨d, hd, rfl⟩ := mem_ent hp h1
    have e : d.k = k := eT_inj (WideAt.sameKey_eq h2)
    subst e
    rw [lk_some hT hd]; rfl
theorem TMb.look (h : TMb w b T) (hT : Ts T) {t et : TypeId} (ht : Tryz.prog.underlying t = some (.map 66 et)) (hz : (zeroValue et).run Tryz.prog w = .ok (.int .i64 0) w) (k : TK) :
    (Instr.lookup t (.map (some b)) (kV k) true).run Tryz.prog w = .ok (.tuple #[.int .i64 ((lk T k).getD 0), .bool (lk T k).isSome]) w := by
  obtain ⟨l, h1, h2⟩ := h
  obtain ⟨v, ps, hrun, hv⟩ := h1.look_ok lawT ht hz (zd := .held (.int .i64 0)) (zp := []) rfl (keyT k)
  rw [at_lk hT h2] at hv
  rw [hrun, has_lk hT h2]
  cases hl : lk T k <;> rw [hl] at hv <;> simp only [heldElem, Option.some.injEq, Prod.mk.injEq, DataW.held.injEq] at hv <;> rw [hv.1] <;> rfl
theorem TMb.len (h : TMb w b T) {t et : TypeId} (ht : Tryz.prog.underlying t = some (.map 66 et)) (ty : TypeId) :
    (Builtin.len_ #[t] ty #[.map (some b)]).run Tryz.prog w = .ok (.int .i64 T.length) w := by
  obtain ⟨l, h1, h2⟩ := h
  rw [h1.len ht ty, Maps.size_eq, h2.length_eq, List.length_map]
theorem ent_del {l : List (Lit × DataW Value)} (hp : l.Perm (T.map entT)) (k : TK) : (l.filter fun p => !p.1.sameKey (eT k)).Perm ((delT k T).map entT) := by
  have h1 := hp.filter fun p => !p.1.sameKey (eT k)
  have h2 : (T.map entT).filter (fun p => !p.1.sameKey (eT k)) = (delT k T).map entT := by
    unfold delT
    rw [List.filter_map]
    congr 1
    refine List.filter_congr fun d _ => ?_
    show (!(eT d.k).sameKey (eT k)) = !decide (d.k = k)
    by_cases e : d.k = k
    · rw [e, WideAt.sameKey_self (klT k)]; simp
    · rw [Maps.sameKey_ne fun q => e (eT_inj q)]; simp [e]
  rw [← h2]; exact h1
theorem TMb.store (h : TMb w b T) {t et : TypeId} (ht : Tryz.prog.underlying t = some (.map 66 et)) (k : TK) (x : Int) (hm : T.length < maxLen) :
    ∃ w', (Instr.mapUpdate t (.map (some b)) (kV k) (.int .i64 x)).run Tryz.prog w = .ok () w' ∧ TMb w' b (setT k x T) ∧ Mv (fun k => k = b) w w' := by
  obtain ⟨l, h1, h2⟩ := h
  obtain ⟨w', hrun, ho, hg⟩ := h1.update lawT ht hm (keyT k) (val := .int .i64 x) (d := .held (.int .i64 x)) (ps := []) rfl
  have hp : (DataW.insert (eT k, .held (.int .i64 x)) (l.filter fun p => !p.1.sameKey (eT k))).Perm ((setT k x T).map entT) := by
    refine (WideShapes.insert_perm _ _).trans ?_
    unfold setT
    refine ((ent_del h2 k).cons _).trans ?_
    exact ((insA_perm keyD (mkD k x) (delT k T)).symm.map entT)
  refine ⟨w', hrun, ⟨_, ?_, hp⟩, (Mv.refl _ _).grown hg (fun k e => .inl (by cases e; rfl))⟩
  have h3 := ownsMap_norm ho
  have h4 : Maps.size (DataW.put (.map l) (eT k) (.held (.int .i64 x))) = (setT k x T).length := by
    rw [DataW.put_eq, Maps.size_eq]
    have := hp.length_eq
    rw [List.length_map] at this
    exact this
  rw [h4] at h3
  exact h3
theorem TMb.drop (h : TMb w b T) {t et : TypeId} (ht : Tryz.prog.underlying t = some (.map 66 et)) (k : TK) (ty : TypeId) :
    ∃ w', (Builtin.delete_ #[t, 66] ty #[.map (some b), kV k]).run Tryz.prog w = .ok (.tuple #[]) w' ∧ TMb w' b (delT k T) ∧ Mv (fun k => k = b) w w' := by
  obtain ⟨l, h1, h2⟩ := h
  obtain ⟨w', hrun, ho, hg⟩ := h1.drop lawT ht (keyT k) ty
  have hp := ent_del h2 k
  refine ⟨w', hrun, ⟨_, ?_, hp⟩, (Mv.refl _ _).grown hg.grown (fun k e => .inl (by cases e; rfl))⟩
  have h3 := ownsMap_norm ho
  have h4 : Maps.size (DataW.del (.map l) (eT k)) = (delT k T).length := by
    rw [DataW.del_eq, Maps.size_eq]
    have := hp.length_eq
    rw [List.length_map] at this
    exact this
  rw [h4] at h3
  exact h3
end
end Go.Proofs.YtdcidlgmnnaahaaGreat
