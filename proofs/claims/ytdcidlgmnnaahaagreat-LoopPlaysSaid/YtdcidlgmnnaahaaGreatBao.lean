import Derived.Test.YtdcidlgmnnaahaaGreatBan
/- Push on a loop, the first. -/
namespace Go.Proofs.YtdcidlgmnnaahaaGreat
open Go.RowKit Go.Shelf Go.Lib
attribute [local go_sem] Oper.semAt_some
set_option maxRecDepth 100000 in
set_option maxHeartbeats 4000000 in
theorem pushl_0 {w : World} {lb : Nat} {E : Nat → Prop} {L : List Wt} {n : Nat} {T : List Du} (h : Lo w lb E L n T) (hn : n < 100000) (h0 : n = 0) (k p s : Int) (u x : ByteArray) (hk1 : 1 ≤ k) (hk2 : k ≤ 6) :
    Calls Tryz.prog 6 #[lp lb, .agg #[.int .i64 k, .int .i64 p, .int .i64 s, .string u, .string x]] w fun e V => e = .returned (.int .i64 0) ∧ Lg w lb E (insA keyW (mkW k p s u x n hn) L) (n + 1) T V := by
  obtain ⟨N, hN⟩ : ∃ N, w.heap.size = N := ⟨_, rfl⟩
  obtain ⟨W0, hW0⟩ : ∃ W0, w.alloc (.cells #[.int .i64 k, .int .i64 p, .int .i64 s, .string u, .string x] 32) = W0 := ⟨_, rfl⟩
  have b0 : Below w.heap.size w W0 := by rw [← hW0]; exact (Below.refl _ _).alloc (Nat.le_refl _) _
  have s0 : W0.heap.size = N + 1 := by rw [← hW0]; simp [hN]
  have bx : ∀ j v, #[.int .i64 k, .int .i64 p, .int .i64 s, .string u, .string x][j]? = some v → W0.cell? ⟨N, j, none⟩ = some v := fun j v hj => by rw [← hW0]; exact cell_at hN hj
  have lbN : lb < N := by rw [← hN]; exact h.lt.1 lb h.lt.2
  have g1 : ¬ k < 1 := by omega
  have g2 : decide (k < 1) = false := by simpa using g1
  have g3 : ¬ 6 < k := by omega
  have g4 : decide (6 < k) = false := by simpa using g3
  obtain ⟨Eq, B, mv, h1, h2, h3, h4, h5, h6, h7, h8⟩ := h
  have h1' := h1.mv (D := fun _ => False) (Mv.below b0) (fun _ _ h => h) (fun _ _ h => h)
  have c4n : W0.cell? ⟨lb, 4, none⟩ = some (.int .i64 n) := (Qu.xt h1').1 4 (by omega)
  have hnI : (n : Int) < 100000 := by omega
  subst h0
  have c4 : W0.cell? ⟨lb, 4, none⟩ = some (.int .i64 0) := c4n
  clear c4n hnI
  have hL : L = [] := List.eq_nil_of_length_eq_zero (by have := (Qu.q h1).2.2.1; omega)
  subst hL
  obtain ⟨W1, hW1⟩ : ∃ W1, W0.alloc (.cells #[fE, .slice none 0 0, .int .i64 0, .int .i64 0] 54) = W1 := ⟨_, rfl⟩
  have b1 : Below W0.heap.size W0 W1 := by rw [← hW1]; exact (Below.refl _ _).alloc (Nat.le_refl _) _
  have q1 := h1'.mv (D := fun _ => False) (Mv.below b1) (fun _ _ h => h) (fun _ _ h => h)
  obtain ⟨vv, xs, F, L', a1, a2, _, _, _, a6⟩ := q1
  have d0 : W1.cell? ⟨lb, 0, none⟩ = some .nilFunc := a1.c0.trans (by unfold Qw.fnV nbq; rfl)
  have d1 := a1.c1
  have d2 := a1.c2
  have d3 := a1.c3
  have e1 := a1.f1
  have e2 := a1.f2
  have e3 := a1.f3
  have b01 : Below w.heap.size w W1 := b0.trans (b1.mono b0.size)
  have e0 : W1.frozen? ⟨lb, 0, none⟩ = false := (bfroz b01 (by omega)).trans (h2 rfl)
  have nq : ∀ j v, #[fE, .slice none 0 0, .int .i64 0, .int .i64 0][j]? = some v → W1.cell? ⟨N + 1, j, none⟩ = some v := fun j v hj => by rw [← hW1]; exact cell_at s0 hj
  have n0 : W1.cell? ⟨N + 1, 0, none⟩ = some fE := nq 0 _ rfl
  have n1 : W1.cell? ⟨N + 1, 1, none⟩ = some (.slice none 0 0) := nq 1 _ rfl
  have n2 : W1.cell? ⟨N + 1, 2, none⟩ = some (.int .i64 0) := nq 2 _ rfl
  have n3 : W1.cell? ⟨N + 1, 3, none⟩ = some (.int .i64 0) := nq 3 _ rfl
  have kc := Cv.cells W1 lb 0 [fE, .slice none 0 0, .int .i64 0, .int .i64 0]
  obtain ⟨W2, hW2⟩ : ∃ W2, (((W1.setCell ⟨lb, 0, none⟩ fE).setCell ⟨lb, 1, none⟩ (.slice none 0 0)).setCell ⟨lb, 2, none⟩ (.int .i64 0)).setCell ⟨lb, 3, none⟩ (.int .i64 0) = W2 := ⟨_, rfl⟩
  have kc' : Cv (fun k j => k = lb ∧ 0 ≤ j ∧ j < 0 + 4) W1 W2 := by rw [← hW2]; exact kc
  have m2 : Mv (fun k => k = lb) W1 W2 := kc'.mv.mono fun k _ s => by obtain ⟨j, s, _⟩ := s; exact s
  have lt1 : lb < W1.heap.size := a1.lt
  have o0 : W2.cell? ⟨lb, 0, none⟩ = some fE := by rw [← hW2]; exact (World.cell?_setCell_other _ _ _ _ (by simp)).trans ((World.cell?_setCell_other _ _ _ _ (by simp)).trans ((World.cell?_setCell_other _ _ _ _ (by simp)).trans (World.cell?_setCell_same _ _ _ d0)))
  have o1 : W2.cell? ⟨lb, 1, none⟩ = some (.slice none 0 0) := by rw [← hW2]; exact (World.cell?_setCell_other _ _ _ _ (by simp)).trans ((World.cell?_setCell_other _ _ _ _ (by simp)).trans (World.cell?_setCell_same _ _ _ ((World.cell?_setCell_other _ _ _ _ (by simp)).trans d1)))
  have o2 : W2.cell? ⟨lb, 2, none⟩ = some (.int .i64 0) := by rw [← hW2]; exact (World.cell?_setCell_other _ _ _ _ (by simp)).trans (World.cell?_setCell_same _ _ _ ((World.cell?_setCell_other _ _ _ _ (by simp)).trans ((World.cell?_setCell_other _ _ _ _ (by simp)).trans d2)))
  have o3 : W2.cell? ⟨lb, 3, none⟩ = some (.int .i64 0) := by rw [← hW2]; exact World.cell?_setCell_same _ _ _ ((World.cell?_setCell_other _ _ _ _ (by simp)).trans ((World.cell?_setCell_other _ _ _ _ (by simp)).trans ((World.cell?_setCell_other _ _ _ _ (by simp)).trans d3)))
  have of : ∀ j, 1 ≤ j → j ≤ 3 → W2.frozen? ⟨lb, j, none⟩ = false := fun j j1 j3 => (kc'.fr lb j lt1).trans (by
    match j, j1, j3 with
    | 1, _, _ => exact e1
    | 2, _, _ => exact e2
    | 3, _, _ => exact e3)
  have u2 : Qw.Qu ⟨26, XL (0 : Nat) mv, fE⟩ keyW W2.drew lb (fun k => k = lb) (fun _ => False) [] 0 := (Qu.anew (nb := ⟨26, XL (0 : Nat) mv, fE⟩) o0 o1 o2 o3 of (a1.xt.cv kc' (fun j hj s => by have := s.2.2; omega) lt1)).mv (D := fun _ => False) (Mv.drew _ _) (fun _ _ h => h) (fun _ _ h => h)
  have Elb : E lb := (h5 lb).2 (.inl (Qu.q h1).1)
  have lmv : ∀ k, mbk mv = some k → k < w.heap.size := fun k hk => h3.lt hk
  have nmv : ∀ k, mbk mv = some k → ¬ k = lb := fun k hk e => (h6 k hk).1 (e ▸ (Qu.q h1).1)
  have m02 : Mv E w W2.drew := ((Mv.below b01).trans' (m2.mono fun k _ e => e ▸ Elb)).trans' (Mv.drew _ _)
  have hP : Hid (Calls Tryz.prog 27 #[.pointer (some ⟨lb, 0, none⟩), .agg #[.int .i64 k, .int .i64 p, .int .i64 s, .string u, .string x, .int .i64 0]] W2.drew fun e V => e = .returned (.tuple #[]) ∧ V.cell? ⟨lb, 4, none⟩ = some (.int .i64 0) ∧ V.frozen? ⟨lb, 4, none⟩ = false ∧ ∀ V2, V.setCell ⟨lb, 4, none⟩ (.int .i64 1) = V2 → Lg w lb E (insA keyW (mkW k p s u x 0 hn) []) (0 + 1) T V2) := by
    refine (qpush (E := fun k => k = lb ∨ mbk mv = some k) u2 (((h3.mv (E := fun _ => False) (Mv.below b01) (fun _ _ h => h)).mv m2 nmv).mv (E := fun _ => False) (Mv.drew _ _) (fun _ _ h => h)) h4 (fun k => ⟨fun e => e.imp id .inr, fun e => e.imp id (fun e => e.elim False.elim id)⟩) (fun k hk => ⟨nmv k hk, fun h => h⟩) (fun _ h => by cases h) h8 hn (mkW k p s u x 0 hn) rfl).mono ?_
    rintro e V ⟨z1, z2, z3, z4⟩
    refine ⟨z1, z2, z3, fun V2 hV2 => ?_⟩
    obtain ⟨E', y1, y2, y3⟩ := z4 V2 hV2
    have sub : ∀ k, k = lb ∨ mbk mv = some k → E k := fun k hk => hk.elim (fun e => e ▸ Elb) (fun e => (h5 k).2 (.inr (.inr e)))
    exact ⟨E', y1, m02.trans' (y2.mono fun k _ e => sub k e), fun k hk => (y3 k hk).imp (sub k) (fun s => Nat.le_trans m02.size s)⟩
  have hS : ((W2.drew.cell? ⟨N, 0, none⟩ = some (.int .i64 k) ∧ W2.drew.cell? ⟨N, 1, none⟩ = some (.int .i64 p) ∧ W2.drew.cell? ⟨N, 2, none⟩ = some (.int .i64 s) ∧ W2.drew.cell? ⟨N, 3, none⟩ = some (.string u) ∧ W2.drew.cell? ⟨N, 4, none⟩ = some (.string x))) ∧ W2.drew.cell? ⟨lb, 4, none⟩ = some (.int .i64 0) := by
    have f : ∀ j v, #[.int .i64 k, .int .i64 p, .int .i64 s, .string u, .string x][j]? = some v → W2.drew.cell? ⟨N, j, none⟩ = some v := fun j v hj => m2.cell (a := ⟨N, j, none⟩) (by simp; omega) (bcell b1 (by omega) (bx j v hj))
    exact ⟨⟨f 0 _ rfl, f 1 _ rfl, f 2 _ rfl, f 3 _ rfl, f 4 _ rfl⟩, (Qu.xt u2).1 4 (by omega)⟩
  have hNq := newq_any W0
  rw [hW1, s0] at hNq
  have x0 : W0.cell? ⟨N, 0, none⟩ = some (.int .i64 k) := bx 0 _ rfl
  clear h1 h2 h3 h4 h5 h6 h7 h8 h1' a1 a2 a6 b0 b1 b01 kc kc' m2 lt1 o0 o1 o2 o3 of u2 Elb lmv nmv m02 nq bx s0 lbN
  unfold lp fE Qw.qp at *
  go_enter Tryz.func6, Tryz.ntmps6
  go_wp2_with (first | rw [hW0])
  refine hNq.mono ?_
  rintro e V1 ⟨rfl, rfl⟩
  go_wp2_with (first | rw [hW2])
  clear hW2 hW1 hW0 d0 d1 d2 d3 e0 e1 e2 e3 n0 n1 n2 n3 hNq x0 c4
  refine Zs.region (S := fun W => (W.cell? ⟨N, 0, none⟩ = some (.int .i64 k) ∧ W.cell? ⟨N, 1, none⟩ = some (.int .i64 p) ∧ W.cell? ⟨N, 2, none⟩ = some (.int .i64 s) ∧ W.cell? ⟨N, 3, none⟩ = some (.string u) ∧ W.cell? ⟨N, 4, none⟩ = some (.string x)) ∧ W.cell? ⟨lb, 4, none⟩ = some (.int .i64 0)) 9 (by kernel_rfl) ?_
  refine Zs.pure (i := 0) (oi := ⟨some 24, _, _, _, _, _⟩) (v := .pointer (some ⟨lb, 0, none⟩)) rfl (by kernel_rfl) (by kernel_rfl) (by kernel_rfl) (by decide) (fun _ _ _ h => h) (Or.inl ⟨by rfl, ?hy0⟩) hS ?_
  case hy0 => (intro w hSw; (try dsimp only at hSw); go_simp; try with_reducible rfl)
  simp only [Act.put, List.setIfInBounds_toArray, List.set_cons_zero, List.set_cons_succ]
  refine Zs.pure (i := 1) (oi := ⟨some 25, _, _, _, _, _⟩) (v := .pointer (some ⟨lb, 0, none⟩)) rfl (by kernel_rfl) (by kernel_rfl) (by kernel_rfl) (by decide) (fun _ _ _ h => h) (Or.inl ⟨by rfl, ?hy1⟩) hS ?_
  case hy1 => (intro w hSw; (try dsimp only at hSw); go_simp; try with_reducible rfl)
  simp only [Act.put, List.setIfInBounds_toArray, List.set_cons_zero, List.set_cons_succ]
  refine Zs.pure (i := 2) (oi := ⟨some 26, _, _, _, _, _⟩) (v := .pointer (some ⟨lb, 0, none⟩)) rfl (by kernel_rfl) (by kernel_rfl) (by kernel_rfl) (by decide) (fun _ _ _ h => h) (Or.inl ⟨by rfl, ?hy2⟩) hS ?_
  case hy2 => (intro w hSw; (try dsimp only at hSw); go_simp; try with_reducible rfl)
  simp only [Act.put, List.setIfInBounds_toArray, List.set_cons_zero, List.set_cons_succ]
  refine Zs.takeC (i := 3) (oi := ⟨some 27, _, _, _, _, _⟩) (v := .agg #[.int .i64 k, .int .i64 p, .int .i64 s, .string u, .string x]) 10 rfl (by kernel_rfl) (by kernel_rfl) (by kernel_rfl) (by decide) (by kernel_rfl) (by kernel_rfl) (by kernel_rfl) (fun _ _ _ h => h) (Or.inl ⟨by rfl, ?hy3⟩) hS ?_
  case hy3 => (intro w hSw; (try dsimp only at hSw); go_simp; try with_reducible rfl)
  simp only [Act.put, List.setIfInBounds_toArray, List.set_cons_zero, List.set_cons_succ]
  refine Zs.pure (i := 4) (oi := ⟨some 28, _, _, _, _, _⟩) (v := .pointer (some ⟨lb, 0, none⟩)) rfl (by kernel_rfl) (by kernel_rfl) (by kernel_rfl) (by decide) (fun _ _ _ h => h) (Or.inl ⟨by rfl, ?hy4⟩) hS ?_
  case hy4 => (intro w hSw; (try dsimp only at hSw); go_simp; try with_reducible rfl)
  simp only [Act.put, List.setIfInBounds_toArray, List.set_cons_zero, List.set_cons_succ]
  refine Zs.pure (i := 5) (oi := ⟨some 29, _, _, _, _, _⟩) (v := .pointer (some ⟨lb, 0, none⟩)) rfl (by kernel_rfl) (by kernel_rfl) (by kernel_rfl) (by decide) (fun _ _ _ h => h) (Or.inl ⟨by rfl, ?hy5⟩) hS ?_
  case hy5 => (intro w hSw; (try dsimp only at hSw); go_simp; try with_reducible rfl)
  simp only [Act.put, List.setIfInBounds_toArray, List.set_cons_zero, List.set_cons_succ]
  refine Zs.pure (i := 6) (oi := ⟨some 30, _, _, _, _, _⟩) (v := .pointer (some ⟨lb, 4, none⟩)) rfl (by kernel_rfl) (by kernel_rfl) (by kernel_rfl) (by decide) (fun _ _ _ h => h) (Or.inl ⟨by rfl, ?hy6⟩) hS ?_
  case hy6 => (intro w hSw; (try dsimp only at hSw); go_simp; try with_reducible rfl)
  simp only [Act.put, List.setIfInBounds_toArray, List.set_cons_zero, List.set_cons_succ]
  refine Zs.takeC (i := 7) (oi := ⟨some 31, _, _, _, _, _⟩) (v := .int .i64 0) 10 rfl (by kernel_rfl) (by kernel_rfl) (by kernel_rfl) (by decide) (by kernel_rfl) (by kernel_rfl) (by kernel_rfl) (fun _ _ _ h => h) (Or.inl ⟨by rfl, ?hy7⟩) hS ?_
  case hy7 => (intro w hSw; (try dsimp only at hSw); go_simp; try with_reducible rfl)
  simp only [Act.put, List.setIfInBounds_toArray, List.set_cons_zero, List.set_cons_succ]
  refine Zs.pure (i := 8) (oi := ⟨some 32, _, _, _, _, _⟩) (v := .agg #[.int .i64 k, .int .i64 p, .int .i64 s, .string u, .string x, .int .i64 0]) rfl (by kernel_rfl) (by kernel_rfl) (by kernel_rfl) (by decide) (fun _ _ _ h => h) (Or.inl ⟨by rfl, ?hy8⟩) hS ?_
  case hy8 => (intro w hSw; (try dsimp only at hSw); go_simp; try with_reducible rfl)
  simp only [Act.put, List.setIfInBounds_toArray, List.set_cons_zero, List.set_cons_succ]
  refine Zs.one (i := 9) (oi := ⟨some 33, _, _, _, _, _⟩) (by kernel_rfl) rfl (fun K hK => ?_)
  go_simp
  refine hP.out.mono ?_
  rintro e V1 ⟨rfl, c4, f4, hf⟩
  obtain ⟨V2, hV2⟩ : ∃ V2, V1.setCell ⟨lb, 4, none⟩ (.int .i64 1) = V2 := ⟨_, rfl⟩
  have fin := hidP (hf V2 hV2)
  clear hf hP
  go_wp2_with fail
  refine hK.out _ _ (fun q => absurd q (by decide)) ?_
  clear hK K
  try simp only [Act.put, List.setIfInBounds_toArray, List.set_cons_zero, List.set_cons_succ]
  refine Zs.done (by kernel_rfl) ?_ _
  clear hS
  go_wp2_with (rw [hV2])
  go_ret
  exact ⟨rfl, fin.out⟩
end Go.Proofs.YtdcidlgmnnaahaaGreat
/- Push on a loop, . -/
namespace Go.Proofs.YtdcidlgmnnaahaaGreat
open Go.RowKit Go.Shelf Go.Lib
attribute [local go_sem] Oper.semAt_some
set_option maxRecDepth 100000 in
set_option maxHeartbeats 4000000 in
theorem pushl_s {w : World} {lb : Nat} {E : Nat → Prop} {L : List Wt} {n : Nat} {T : List Du} (h : Lo w lb E L n T) (hn : n < 100000) (h0 : ¬ n = 0) (k p s : Int) (u x : ByteArray) (hk1 : 1 ≤ k) (hk2 : k ≤ 6) :
    Calls Tryz.prog 6 #[lp lb, .agg #[.int .i64 k, .int .i64 p, .int .i64 s, .string u, .string x]] w fun e V => e = .returned (.int .i64 0) ∧ Lg w lb E (insA keyW (mkW k p s u x n hn) L) (n + 1) T V := by
  obtain ⟨N, hN⟩ : ∃ N, w.heap.size = N := ⟨_, rfl⟩
  obtain ⟨W0, hW0⟩ : ∃ W0, w.alloc (.cells #[.int .i64 k, .int .i64 p, .int .i64 s, .string u, .string x] 32) = W0 := ⟨_, rfl⟩
  have b0 : Below w.heap.size w W0 := by rw [← hW0]; exact (Below.refl _ _).alloc (Nat.le_refl _) _
  have s0 : W0.heap.size = N + 1 := by rw [← hW0]; simp [hN]
  have bx : ∀ j v, #[.int .i64 k, .int .i64 p, .int .i64 s, .string u, .string x][j]? = some v → W0.cell? ⟨N, j, none⟩ = some v := fun j v hj => by rw [← hW0]; exact cell_at hN hj
  have lbN : lb < N := by rw [← hN]; exact h.lt.1 lb h.lt.2
  have g1 : ¬ k < 1 := by omega
  have g2 : decide (k < 1) = false := by simpa using g1
  have g3 : ¬ 6 < k := by omega
  have g4 : decide (6 < k) = false := by simpa using g3
  obtain ⟨Eq, B, mv, h1, h2, h3, h4, h5, h6, h7, h8⟩ := h
  have h1' := h1.mv (D := fun _ => False) (Mv.below b0) (fun _ _ h => h) (fun _ _ h => h)
  have c4 : W0.cell? ⟨lb, 4, none⟩ = some (.int .i64 n) := (Qu.xt h1').1 4 (by omega)
  have hnI : (n : Int) < 100000 := by omega
  have hq : nbq n mv = ⟨26, XL n mv, fE⟩ := by unfold nbq; rw [if_neg h0]
  rw [hq] at h1'
  have hP : Hid (Calls Tryz.prog 27 #[.pointer (some ⟨lb, 0, none⟩), .agg #[.int .i64 k, .int .i64 p, .int .i64 s, .string u, .string x, .int .i64 n]] W0.drew fun e V => e = .returned (.tuple #[]) ∧ V.cell? ⟨lb, 4, none⟩ = some (.int .i64 n) ∧ V.frozen? ⟨lb, 4, none⟩ = false ∧ ∀ V2, V.setCell ⟨lb, 4, none⟩ (.int .i64 ((n : Int) + 1)) = V2 → Lg w lb E (insA keyW (mkW k p s u x n hn) L) (n + 1) T V2) := by
    refine (qpush (W := W0.drew) (h1'.mv (D := fun _ => False) (Mv.drew _ _) (fun _ _ h => h) (fun _ _ h => h)) ((h3.mv (E := fun _ => False) (Mv.below b0) (fun _ _ h => h)).mv (E := fun _ => False) (Mv.drew _ _) (fun _ _ h => h)) h4 h5 h6 h7 h8 hn (mkW k p s u x n hn) rfl).mono ?_
    rintro e V ⟨z1, z2, z3, z4⟩
    exact ⟨z1, z2, z3, fun V2 hV2 => Lg.step ((Mv.below b0).trans' (Mv.drew _ _)) (z4 V2 hV2)⟩
  have hS : ((W0.drew.cell? ⟨N, 0, none⟩ = some (.int .i64 k) ∧ W0.drew.cell? ⟨N, 1, none⟩ = some (.int .i64 p) ∧ W0.drew.cell? ⟨N, 2, none⟩ = some (.int .i64 s) ∧ W0.drew.cell? ⟨N, 3, none⟩ = some (.string u) ∧ W0.drew.cell? ⟨N, 4, none⟩ = some (.string x))) ∧ W0.drew.cell? ⟨lb, 4, none⟩ = some (.int .i64 n) := ⟨⟨bx 0 _ rfl, bx 1 _ rfl, bx 2 _ rfl, bx 3 _ rfl, bx 4 _ rfl⟩, c4⟩
  have x0 : W0.cell? ⟨N, 0, none⟩ = some (.int .i64 k) := bx 0 _ rfl
  have h0I : ¬ (n : Int) = 0 := by omega
  clear h1 h2 h3 h4 h5 h6 h7 h8 h1' b0 bx s0 lbN hq h0 hnI hk1 hk2
  unfold lp at *
  go_enter Tryz.func6, Tryz.ntmps6
  go_wp2_with (first | rw [hW0])
  refine Zs.region (S := fun W => (W.cell? ⟨N, 0, none⟩ = some (.int .i64 k) ∧ W.cell? ⟨N, 1, none⟩ = some (.int .i64 p) ∧ W.cell? ⟨N, 2, none⟩ = some (.int .i64 s) ∧ W.cell? ⟨N, 3, none⟩ = some (.string u) ∧ W.cell? ⟨N, 4, none⟩ = some (.string x)) ∧ W.cell? ⟨lb, 4, none⟩ = some (.int .i64 n)) 9 (by kernel_rfl) ?_
  refine Zs.pure (i := 0) (oi := ⟨some 24, _, _, _, _, _⟩) (v := .pointer (some ⟨lb, 0, none⟩)) rfl (by kernel_rfl) (by kernel_rfl) (by kernel_rfl) (by decide) (fun _ _ _ h => h) (Or.inl ⟨by rfl, ?hy0⟩) hS ?_
  case hy0 => (intro w hSw; (try dsimp only at hSw); go_simp; try with_reducible rfl)
  simp only [Act.put, List.setIfInBounds_toArray, List.set_cons_zero, List.set_cons_succ]
  refine Zs.pure (i := 1) (oi := ⟨some 25, _, _, _, _, _⟩) (v := .pointer (some ⟨lb, 0, none⟩)) rfl (by kernel_rfl) (by kernel_rfl) (by kernel_rfl) (by decide) (fun _ _ _ h => h) (Or.inl ⟨by rfl, ?hy1⟩) hS ?_
  case hy1 => (intro w hSw; (try dsimp only at hSw); go_simp; try with_reducible rfl)
  simp only [Act.put, List.setIfInBounds_toArray, List.set_cons_zero, List.set_cons_succ]
  refine Zs.pure (i := 2) (oi := ⟨some 26, _, _, _, _, _⟩) (v := .pointer (some ⟨lb, 0, none⟩)) rfl (by kernel_rfl) (by kernel_rfl) (by kernel_rfl) (by decide) (fun _ _ _ h => h) (Or.inl ⟨by rfl, ?hy2⟩) hS ?_
  case hy2 => (intro w hSw; (try dsimp only at hSw); go_simp; try with_reducible rfl)
  simp only [Act.put, List.setIfInBounds_toArray, List.set_cons_zero, List.set_cons_succ]
  refine Zs.takeC (i := 3) (oi := ⟨some 27, _, _, _, _, _⟩) (v := .agg #[.int .i64 k, .int .i64 p, .int .i64 s, .string u, .string x]) 10 rfl (by kernel_rfl) (by kernel_rfl) (by kernel_rfl) (by decide) (by kernel_rfl) (by kernel_rfl) (by kernel_rfl) (fun _ _ _ h => h) (Or.inl ⟨by rfl, ?hy3⟩) hS ?_
  case hy3 => (intro w hSw; (try dsimp only at hSw); go_simp; try with_reducible rfl)
  simp only [Act.put, List.setIfInBounds_toArray, List.set_cons_zero, List.set_cons_succ]
  refine Zs.pure (i := 4) (oi := ⟨some 28, _, _, _, _, _⟩) (v := .pointer (some ⟨lb, 0, none⟩)) rfl (by kernel_rfl) (by kernel_rfl) (by kernel_rfl) (by decide) (fun _ _ _ h => h) (Or.inl ⟨by rfl, ?hy4⟩) hS ?_
  case hy4 => (intro w hSw; (try dsimp only at hSw); go_simp; try with_reducible rfl)
  simp only [Act.put, List.setIfInBounds_toArray, List.set_cons_zero, List.set_cons_succ]
  refine Zs.pure (i := 5) (oi := ⟨some 29, _, _, _, _, _⟩) (v := .pointer (some ⟨lb, 0, none⟩)) rfl (by kernel_rfl) (by kernel_rfl) (by kernel_rfl) (by decide) (fun _ _ _ h => h) (Or.inl ⟨by rfl, ?hy5⟩) hS ?_
  case hy5 => (intro w hSw; (try dsimp only at hSw); go_simp; try with_reducible rfl)
  simp only [Act.put, List.setIfInBounds_toArray, List.set_cons_zero, List.set_cons_succ]
  refine Zs.pure (i := 6) (oi := ⟨some 30, _, _, _, _, _⟩) (v := .pointer (some ⟨lb, 4, none⟩)) rfl (by kernel_rfl) (by kernel_rfl) (by kernel_rfl) (by decide) (fun _ _ _ h => h) (Or.inl ⟨by rfl, ?hy6⟩) hS ?_
  case hy6 => (intro w hSw; (try dsimp only at hSw); go_simp; try with_reducible rfl)
  simp only [Act.put, List.setIfInBounds_toArray, List.set_cons_zero, List.set_cons_succ]
  refine Zs.takeC (i := 7) (oi := ⟨some 31, _, _, _, _, _⟩) (v := .int .i64 n) 10 rfl (by kernel_rfl) (by kernel_rfl) (by kernel_rfl) (by decide) (by kernel_rfl) (by kernel_rfl) (by kernel_rfl) (fun _ _ _ h => h) (Or.inl ⟨by rfl, ?hy7⟩) hS ?_
  case hy7 => (intro w hSw; (try dsimp only at hSw); go_simp; try with_reducible rfl)
  simp only [Act.put, List.setIfInBounds_toArray, List.set_cons_zero, List.set_cons_succ]
  refine Zs.pure (i := 8) (oi := ⟨some 32, _, _, _, _, _⟩) (v := .agg #[.int .i64 k, .int .i64 p, .int .i64 s, .string u, .string x, .int .i64 n]) rfl (by kernel_rfl) (by kernel_rfl) (by kernel_rfl) (by decide) (fun _ _ _ h => h) (Or.inl ⟨by rfl, ?hy8⟩) hS ?_
  case hy8 => (intro w hSw; (try dsimp only at hSw); go_simp; try with_reducible rfl)
  simp only [Act.put, List.setIfInBounds_toArray, List.set_cons_zero, List.set_cons_succ]
  refine Zs.one (i := 9) (oi := ⟨some 33, _, _, _, _, _⟩) (by kernel_rfl) rfl (fun K hK => ?_)
  go_simp
  refine hP.out.mono ?_
  rintro e V1 ⟨rfl, c4, f4, hf⟩
  obtain ⟨V2, hV2⟩ : ∃ V2, V1.setCell ⟨lb, 4, none⟩ (.int .i64 ((n : Int) + 1)) = V2 := ⟨_, rfl⟩
  have fin := hidP (hf V2 hV2)
  clear hf hP
  go_wp2_with fail
  refine hK.out _ _ (fun q => absurd q (by decide)) ?_
  clear hK K
  try simp only [Act.put, List.setIfInBounds_toArray, List.set_cons_zero, List.set_cons_succ]
  refine Zs.done (by kernel_rfl) ?_ _
  clear hS
  go_wp2_with (rw [hV2])
  go_ret
  exact ⟨rfl, fin.out⟩
theorem pushl_any {w : World} {lb : Nat} {E : Nat → Prop} {L : List Wt} {n : Nat} {T : List Du} (h : Lo w lb E L n T) (hn : n < 100000) (k p s : Int) (u x : ByteArray) (hk1 : 1 ≤ k) (hk2 : k ≤ 6) :
    Calls Tryz.prog 6 #[lp lb, .agg #[.int .i64 k, .int .i64 p, .int .i64 s, .string u, .string x]] w fun e V => e = .returned (.int .i64 0) ∧ Lg w lb E (insA keyW (mkW k p s u x n hn) L) (n + 1) T V := by
  by_cases h0 : n = 0
  · exact pushl_0 h hn h0 k p s u x hk1 hk2
  · exact pushl_s h hn h0 k p s u x hk1 hk2
end Go.Proofs.YtdcidlgmnnaahaaGreat
/- Set on a loop. -/
namespace Go.Proofs.YtdcidlgmnnaahaaGreat
open Go.RowKit Go.Shelf Go.Lib
attribute [local go_sem] Oper.semAt_some
theorem TM.drop {w : World} {v : Value} {T : List Du} (h : TM w v T) (k : TK) (ty : TypeId) :
    ∃ w', (Builtin.delete_ #[55, 66] ty #[v, kV k]).run Tryz.prog w = .ok (.tuple #[]) w' ∧ TM w' v (delT k T) ∧ Mv (fun k => mbk v = some k) w w' := by
  rcases h with ⟨rfl, rfl⟩ | ⟨b, rfl, h⟩
  · exact ⟨w, Maps.drop_nil lawT Tryz.underlying55 (keyT k) ty, .inl ⟨rfl, rfl⟩, Mv.refl _ _⟩
  · obtain ⟨w', h1, h2, h3⟩ := h.drop Tryz.underlying55 k ty
    exact ⟨w', h1, .inr ⟨b, rfl, h2⟩, h3.mono fun k _ e => by rw [e]; rfl⟩
theorem Lo.tm {W : World} {lb : Nat} {E : Nat → Prop} {L : List Wt} {n : Nat} {T : List Du} (h : Lo W lb E L n T) : ∃ mv, W.cell? ⟨lb, 5, none⟩ = some mv ∧ W.frozen? ⟨lb, 5, none⟩ = false ∧ TM W mv T ∧ (∀ k, mbk mv = some k → E k ∧ k ≠ lb) ∧ ∀ V T', TM V mv T' → Ts T' → T'.length ≤ 100000 → Mv (fun k => mbk mv = some k) W V → Lo V lb E L n T' := by
  obtain ⟨Eq, B, mv, h1, h2, h3, h4, h5, h6, h7, h8⟩ := h
  have x := Qu.xt h1
  have q := (Qu.q h1).1
  refine ⟨mv, x.1 5 (by omega), x.2 5 (by omega), h3, fun k hk => ⟨(h5 k).2 (.inr (.inr hk)), fun e => (h6 k hk).1 (e ▸ q)⟩, fun V T' t1 t2 t3 m => ⟨Eq, B, mv, h1.mv m (fun k hk e => (h6 k e).1 hk) (fun k hk e => (h6 k e).2 hk), fun e => (m.froz (a := ⟨lb, 0, none⟩) (fun e => (h6 lb e).1 q) (h1.lt.1 lb q)).trans (h2 e), t1, t2, h5, h6, h7, t3⟩⟩
/-- A new map. -/
theorem Lo.anew {W V : World} {lb : Nat} {E : Nat → Prop} {L : List Wt} {n : Nat} {T : List Du} (h : Lo W lb E L n T) (hc : W.cell? ⟨lb, 5, none⟩ = some (.map none)) (hV : (W.alloc (.map #[] 0)).setCell ⟨lb, 5, none⟩ (.map (some W.heap.size)) = V) : Lo V lb (fun k => E k ∨ k = W.heap.size) L n T ∧ Mv E W V := by
  have hlt := h.lt
  obtain ⟨Eq, B, mv, h1, h2, h3, h4, h5, h6, h7, h8⟩ := h
  have x := Qu.xt h1
  have q := (Qu.q h1).1
  have hm : mv = .map none := by
    have := x.1 5 (by omega)
    rw [hc] at this
    exact (Option.some.inj this).symm
  subst hm
  have hT : T = [] := by
    rcases h3 with ⟨_, e⟩ | ⟨b, e, _⟩
    · exact e
    · cases e
  subst hT
  have b1 : Below W.heap.size W (W.alloc (.map #[] 0)) := (Below.refl _ _).alloc (Nat.le_refl _) _
  have h1' := h1.mv (D := fun _ => False) (Mv.below b1) (fun _ _ h => h) (fun _ _ h => h)
  obtain ⟨u2, m2⟩ := Qu.setX h1' (j := 5) (by omega) (v0 := .map none) (bcell b1 (hlt.1 lb hlt.2) hc) (.map (some W.heap.size)) (XL n (.map (some W.heap.size))) (fun i hi => by
    unfold nbq XL
    by_cases e : i = 5
    · subst e; simp
    · simp [e])
  rw [hV] at u2 m2
  have ll : ∀ k, Eq k ∨ B k → k < W.heap.size := fun k hk => hlt.1 k ((h5 k).2 (hk.elim .inl (fun e => .inr (.inl e))))
  refine ⟨⟨Eq, B, .map (some W.heap.size), u2, fun e => ?_, .inr ⟨_, rfl, (TMb.made W).mv m2 (fun e => by have := ll lb (.inl q); omega)⟩, h4, fun k => ?_, fun k hk => ?_, h7, h8⟩, (Mv.below b1).trans' (m2.mono fun k _ e => e ▸ hlt.2)⟩
  · rw [← hV, World.frozen?_setCell]
    exact (bfroz b1 (ll lb (.inl q))).trans (h2 e)
  · show (E k ∨ k = W.heap.size) ↔ _
    rw [h5 k]
    constructor
    · rintro ((e | e | e) | e)
      · exact .inl e
      · exact .inr (.inl e)
      · cases e
      · exact .inr (.inr (by rw [e]; rfl))
    · rintro (e | e | e)
      · exact .inl (.inl e)
      · exact .inl (.inr (.inl e))
      · exact .inr (by injection e with e; exact e.symm)
  · injection hk with hk
    subst hk
    exact ⟨fun e => by have := ll _ (.inl e); omega, fun e => by have := ll _ (.inr e); omega⟩
def forever : Int := 9223372036854775807
set_option maxRecDepth 100000 in
set_option maxHeartbeats 4000000 in
theorem setl_never {w : World} {lb : Nat} {E : Nat → Prop} {L : List Wt} {n : Nat} {T : List Du} (h : Lo w lb E L n T) (k : TK) :
    Calls Tryz.prog 10 #[lp lb, .string k.1.1, .string k.1.2, .int .i64 9223372036854775807] w fun e V => e = .returned (.tuple #[]) ∧ Lg w lb E L n (delT k T) V := by
  obtain ⟨N, hN⟩ : ∃ N, w.heap.size = N := ⟨_, rfl⟩
  obtain ⟨W0, hW0⟩ : ∃ W0, w.alloc (.cells #[.string k.1.1, .string k.1.2] 66) = W0 := ⟨_, rfl⟩
  have b0 : Below w.heap.size w W0 := by rw [← hW0]; exact (Below.refl _ _).alloc (Nat.le_refl _) _
  have s0 : W0.heap.size = N + 1 := by rw [← hW0]; simp [hN]
  have bx : W0.cell? ⟨N, 0, none⟩ = some (.string k.1.1) ∧ W0.cell? ⟨N, 1, none⟩ = some (.string k.1.2) := ⟨by rw [← hW0]; exact cell_at hN rfl, by rw [← hW0]; exact cell_at hN rfl⟩
  have lE := h.lt.1
  have b1 : Below w.heap.size w W0.drew := b0.drew
  have h1 := h.below b1
  obtain ⟨mv, c5, f5, tm, sub, fin0⟩ := h1.tm
  obtain ⟨V, hrun, t1, m1⟩ := tm.drop k 0
  have fin : Hid (Lg w lb E L n (delT k T) V) := ⟨E, fin0 V _ t1 (h.ts.del k) (by
    obtain ⟨_, _, _, _, _, _, _, _, _, _, h8⟩ := h
    have := List.length_filter_le (fun d : Du => !decide (d.k = k)) T
    show (List.filter _ T).length ≤ _; omega) m1, (Mv.below b1).trans' (m1.mono fun k _ e => (sub k e).1), Gr.refl _ _⟩
  obtain ⟨u, hu⟩ : ∃ u, k.1.1 = u := ⟨_, rfl⟩
  obtain ⟨x, hx⟩ : ∃ x, k.1.2 = x := ⟨_, rfl⟩
  unfold kV at hrun
  rw [hu, hx] at hrun bx hW0 ⊢
  have hS : (W0.drew.cell? ⟨N, 0, none⟩ = some (.string u) ∧ W0.drew.cell? ⟨N, 1, none⟩ = some (.string x)) ∧ W0.drew.cell? ⟨lb, 5, none⟩ = some mv := ⟨bx, c5⟩
  clear h h1 tm t1 m1 sub fin0 b0 b1 s0 lE hu hx c5 f5
  unfold lp
  go_enter Tryz.func10, Tryz.ntmps10
  go_wp2_with (rw [hW0])
  refine Zs.region (S := fun W => (W.cell? ⟨N, 0, none⟩ = some (.string u) ∧ W.cell? ⟨N, 1, none⟩ = some (.string x)) ∧ W.cell? ⟨lb, 5, none⟩ = some mv) 5 (by kernel_rfl) ?_
  refine Zs.pure (i := 0) (oi := ⟨some 14, _, _, _, _, _⟩) (v := .pointer (some ⟨lb, 0, none⟩)) rfl (by kernel_rfl) (by kernel_rfl) (by kernel_rfl) (by decide) (fun _ _ _ h => h) (Or.inl ⟨by rfl, ?hy0⟩) hS ?_
  case hy0 => (intro w hSw; (try dsimp only at hSw); go_simp; try with_reducible rfl)
  simp only [Act.put, List.setIfInBounds_toArray, List.set_cons_zero, List.set_cons_succ]
  refine Zs.pure (i := 1) (oi := ⟨some 15, _, _, _, _, _⟩) (v := .pointer (some ⟨lb, 0, none⟩)) rfl (by kernel_rfl) (by kernel_rfl) (by kernel_rfl) (by decide) (fun _ _ _ h => h) (Or.inl ⟨by rfl, ?hy1⟩) hS ?_
  case hy1 => (intro w hSw; (try dsimp only at hSw); go_simp; try with_reducible rfl)
  simp only [Act.put, List.setIfInBounds_toArray, List.set_cons_zero, List.set_cons_succ]
  refine Zs.pure (i := 2) (oi := ⟨some 16, _, _, _, _, _⟩) (v := .pointer (some ⟨lb, 5, none⟩)) rfl (by kernel_rfl) (by kernel_rfl) (by kernel_rfl) (by decide) (fun _ _ _ h => h) (Or.inl ⟨by rfl, ?hy2⟩) hS ?_
  case hy2 => (intro w hSw; (try dsimp only at hSw); go_simp; try with_reducible rfl)
  simp only [Act.put, List.setIfInBounds_toArray, List.set_cons_zero, List.set_cons_succ]
  refine Zs.take (i := 3) (oi := ⟨some 17, _, _, _, _, _⟩) (v := mv) rfl (by kernel_rfl) (by kernel_rfl) (by kernel_rfl) (by decide) (by kernel_rfl) (by kernel_rfl) (fun _ _ _ h => h) (Or.inl ⟨by rfl, ?hy3⟩) hS ?_
  case hy3 => (intro w hSw; (try dsimp only at hSw); go_simp; try with_reducible rfl)
  simp only [Act.put, List.setIfInBounds_toArray, List.set_cons_zero, List.set_cons_succ]
  refine Zs.take (i := 4) (oi := ⟨some 18, _, _, _, _, _⟩) (v := .agg #[.string u, .string x]) rfl (by kernel_rfl) (by kernel_rfl) (by kernel_rfl) (by decide) (by kernel_rfl) (by kernel_rfl) (fun _ _ _ h => h) (Or.inl ⟨by rfl, ?hy4⟩) hS ?_
  case hy4 => (intro w hSw; (try dsimp only at hSw); go_simp; try with_reducible rfl)
  simp only [Act.put, List.setIfInBounds_toArray, List.set_cons_zero, List.set_cons_succ]
  refine Zs.one (i := 5) (oi := ⟨none, _, _, _, _, _⟩) (by kernel_rfl) rfl (fun K hK => ?_)
  go_simp
  refine hK.out _ _ (fun q => absurd q (by decide)) ?_
  clear hK K
  try simp only [Act.put, List.setIfInBounds_toArray, List.set_cons_zero, List.set_cons_succ]
  refine Zs.done (by kernel_rfl) ?_ _
  clear hS
  go_wp2_with fail
  refine bodyPost_ret (results_none rfl _ _ _) rfl ?_
  exact ⟨rfl, fin.out⟩
theorem Lo.tlen {w : World} {lb : Nat} {E : Nat → Prop} {L : List Wt} {n : Nat} {T : List Du} (h : Lo w lb E L n T) : T.length ≤ 100000 := by
  obtain ⟨_, _, _, _, _, _, _, _, _, _, h8⟩ := h
  exact h8
theorem setl_fin {w W : World} {lb b : Nat} {E E1 : Nat → Prop} {L : List Wt} {n : Nat} {T : List Du} (h : Lo W lb E1 L n T) (m : Mv E w W) (g : Gr E w E1) (hc : W.cell? ⟨lb, 5, none⟩ = some (.map (some b))) (k : TK) (t : Int) (hl : T.length < 100000) :
    ∃ V, (Instr.mapUpdate 55 (.map (some b)) (kV k) (.int .i64 t)).run Tryz.prog W = .ok () V ∧ Lg w lb E L n (setT k t T) V := by
  obtain ⟨mv, c5, f5, tm, sub, fin0⟩ := h.tm
  rw [hc] at c5
  cases c5
  rcases tm with ⟨e, _⟩ | ⟨b', e, tb⟩
  · cases e
  · cases e
    obtain ⟨V, hrun, t1, m1⟩ := tb.store Tryz.underlying55 k t (by unfold maxLen; omega)
    have hs := setT_len k t T
    have m1' : Mv (fun k => mbk (.map (some b)) = some k) W V := m1.mono fun k _ e => by rw [e]; rfl
    exact ⟨V, hrun, E1, fin0 V _ (.inr ⟨b, rfl, t1⟩) (h.ts.set k t) (by omega) m1', m.trans g (m1'.mono fun k _ e => (sub k e).1), g⟩
set_option maxRecDepth 100000 in
set_option maxHeartbeats 4000000 in
theorem setl_some {w : World} {lb b : Nat} {E : Nat → Prop} {L : List Wt} {n : Nat} {T : List Du} (h : Lo w lb E L n T) (hm : w.cell? ⟨lb, 5, none⟩ = some (.map (some b))) (k : TK) (at_ : Int) (hat : at_ ≠ 9223372036854775807) (hl : T.length < 100000) :
    Calls Tryz.prog 10 #[lp lb, .string k.1.1, .string k.1.2, .int .i64 at_] w fun e V => e = .returned (.tuple #[]) ∧ Lg w lb E L n (setT k at_ T) V := by
  obtain ⟨N, hN⟩ : ∃ N, w.heap.size = N := ⟨_, rfl⟩
  obtain ⟨W0, hW0⟩ : ∃ W0, w.alloc (.cells #[.string k.1.1, .string k.1.2] 66) = W0 := ⟨_, rfl⟩
  have b0 : Below w.heap.size w W0 := by rw [← hW0]; exact (Below.refl _ _).alloc (Nat.le_refl _) _
  have s0 : W0.heap.size = N + 1 := by rw [← hW0]; simp [hN]
  have bx : W0.cell? ⟨N, 0, none⟩ = some (.string k.1.1) ∧ W0.cell? ⟨N, 1, none⟩ = some (.string k.1.2) := ⟨by rw [← hW0]; exact cell_at hN rfl, by rw [← hW0]; exact cell_at hN rfl⟩
  have lE := h.lt.1
  have b1 : Below w.heap.size w W0.drew := b0.drew
  have h1 := h.below b1
  have c5 : W0.cell? ⟨lb, 5, none⟩ = some (.map (some b)) := bcell b0 (lE lb h.lt.2) hm
  obtain ⟨V, hrun, fin'⟩ := setl_fin h1 (Mv.below b1) (Gr.refl _ _) c5 k at_ hl
  have fin := hidP fin'
  obtain ⟨u, hu⟩ : ∃ u, k.1.1 = u := ⟨_, rfl⟩
  obtain ⟨x, hx⟩ : ∃ x, k.1.2 = x := ⟨_, rfl⟩
  unfold kV at hrun
  rw [hu, hx] at hrun bx hW0 ⊢
  have hS : (W0.drew.cell? ⟨N, 0, none⟩ = some (.string u) ∧ W0.drew.cell? ⟨N, 1, none⟩ = some (.string x)) ∧ W0.drew.cell? ⟨lb, 5, none⟩ = some (.map (some b)) := ⟨bx, c5⟩
  have heq : ∀ w, (binOp .eql 55 (.map (some b)) (.map none)).run Tryz.prog w = .ok (.bool false) w := fun w => by first | kernel_rfl | rfl
  clear h h1 b0 b1 s0 lE hu hx hm fin' hl
  unfold lp
  go_enter Tryz.func10, Tryz.ntmps10
  go_wp2_with (rw [hW0])
  refine Zs.region (S := fun W => (W.cell? ⟨N, 0, none⟩ = some (.string u) ∧ W.cell? ⟨N, 1, none⟩ = some (.string x)) ∧ W.cell? ⟨lb, 5, none⟩ = some (.map (some b))) 6 (by kernel_rfl) ?_
  refine Zs.pure (i := 0) (oi := ⟨some 28, _, _, _, _, _⟩) (v := .pointer (some ⟨lb, 0, none⟩)) rfl (by kernel_rfl) (by kernel_rfl) (by kernel_rfl) (by decide) (fun _ _ _ h => h) (Or.inl ⟨by rfl, ?hy0⟩) hS ?_
  case hy0 => (intro w hSw; (try dsimp only at hSw); go_simp; try with_reducible rfl)
  simp only [Act.put, List.setIfInBounds_toArray, List.set_cons_zero, List.set_cons_succ]
  refine Zs.pure (i := 1) (oi := ⟨some 29, _, _, _, _, _⟩) (v := .pointer (some ⟨lb, 0, none⟩)) rfl (by kernel_rfl) (by kernel_rfl) (by kernel_rfl) (by decide) (fun _ _ _ h => h) (Or.inl ⟨by rfl, ?hy1⟩) hS ?_
  case hy1 => (intro w hSw; (try dsimp only at hSw); go_simp; try with_reducible rfl)
  simp only [Act.put, List.setIfInBounds_toArray, List.set_cons_zero, List.set_cons_succ]
  refine Zs.pure (i := 2) (oi := ⟨some 30, _, _, _, _, _⟩) (v := .pointer (some ⟨lb, 5, none⟩)) rfl (by kernel_rfl) (by kernel_rfl) (by kernel_rfl) (by decide) (fun _ _ _ h => h) (Or.inl ⟨by rfl, ?hy2⟩) hS ?_
  case hy2 => (intro w hSw; (try dsimp only at hSw); go_simp; try with_reducible rfl)
  simp only [Act.put, List.setIfInBounds_toArray, List.set_cons_zero, List.set_cons_succ]
  refine Zs.take (i := 3) (oi := ⟨some 31, _, _, _, _, _⟩) (v := .map (some b)) rfl (by kernel_rfl) (by kernel_rfl) (by kernel_rfl) (by decide) (by kernel_rfl) (by kernel_rfl) (fun _ _ _ h => h) (Or.inl ⟨by rfl, ?hy3⟩) hS ?_
  case hy3 => (intro w hSw; (try dsimp only at hSw); go_simp; try with_reducible rfl)
  simp only [Act.put, List.setIfInBounds_toArray, List.set_cons_zero, List.set_cons_succ]
  refine Zs.take (i := 4) (oi := ⟨some 32, _, _, _, _, _⟩) (v := .agg #[.string u, .string x]) rfl (by kernel_rfl) (by kernel_rfl) (by kernel_rfl) (by decide) (by kernel_rfl) (by kernel_rfl) (fun _ _ _ h => h) (Or.inl ⟨by rfl, ?hy4⟩) hS ?_
  case hy4 => (intro w hSw; (try dsimp only at hSw); go_simp; try with_reducible rfl)
  simp only [Act.put, List.setIfInBounds_toArray, List.set_cons_zero, List.set_cons_succ]
  refine Zs.pure (i := 5) (oi := ⟨some 33, _, _, _, _, _⟩) (v := .int .i64 at_) rfl (by kernel_rfl) (by kernel_rfl) (by kernel_rfl) (by decide) (fun _ _ _ h => h) (Or.inl ⟨by rfl, ?hy5⟩) hS ?_
  case hy5 => (intro w hSw; (try dsimp only at hSw); go_simp; try with_reducible rfl)
  simp only [Act.put, List.setIfInBounds_toArray, List.set_cons_zero, List.set_cons_succ]
  refine Zs.one (i := 6) (oi := ⟨none, _, _, _, _, _⟩) (by kernel_rfl) rfl (fun K hK => ?_)
  go_simp
  refine hK.out _ _ (fun q => absurd q (by decide)) ?_
  clear hK K
  try simp only [Act.put, List.setIfInBounds_toArray, List.set_cons_zero, List.set_cons_succ]
  refine Zs.done (by kernel_rfl) ?_ _
  clear hS
  go_wp2_with fail
  go_end0
  exact ⟨rfl, fin.out⟩
set_option maxRecDepth 100000 in
set_option maxHeartbeats 4000000 in
theorem setl_nil {w : World} {lb : Nat} {E : Nat → Prop} {L : List Wt} {n : Nat} {T : List Du} (h : Lo w lb E L n T) (hm : w.cell? ⟨lb, 5, none⟩ = some (.map none)) (k : TK) (at_ : Int) (hat : at_ ≠ 9223372036854775807) (hl : T.length < 100000) :
    Calls Tryz.prog 10 #[lp lb, .string k.1.1, .string k.1.2, .int .i64 at_] w fun e V => e = .returned (.tuple #[]) ∧ Lg w lb E L n (setT k at_ T) V := by
  obtain ⟨N, hN⟩ : ∃ N, w.heap.size = N := ⟨_, rfl⟩
  obtain ⟨W0, hW0⟩ : ∃ W0, w.alloc (.cells #[.string k.1.1, .string k.1.2] 66) = W0 := ⟨_, rfl⟩
  have b0 : Below w.heap.size w W0 := by rw [← hW0]; exact (Below.refl _ _).alloc (Nat.le_refl _) _
  have s0 : W0.heap.size = N + 1 := by rw [← hW0]; simp [hN]
  have bx : W0.cell? ⟨N, 0, none⟩ = some (.string k.1.1) ∧ W0.cell? ⟨N, 1, none⟩ = some (.string k.1.2) := ⟨by rw [← hW0]; exact cell_at hN rfl, by rw [← hW0]; exact cell_at hN rfl⟩
  have lE := h.lt.1
  have h0 := h.below b0
  have llb := lE lb h.lt.2
  have c5 : W0.cell? ⟨lb, 5, none⟩ = some (.map none) := bcell b0 llb hm
  have f5 : W0.frozen? ⟨lb, 5, none⟩ = false := by obtain ⟨mv, _, f5, _⟩ := h0.tm; exact f5
  obtain ⟨A, hA⟩ : ∃ A, W0.alloc (.map #[] 0) = A := ⟨_, rfl⟩
  obtain ⟨W1, hW1⟩ : ∃ W1, A.setCell ⟨lb, 5, none⟩ (.map (some W0.heap.size)) = W1 := ⟨_, rfl⟩
  have bA : Below W0.heap.size W0 A := by rw [← hA]; exact (Below.refl _ _).alloc (Nat.le_refl _) _
  have a5 : A.cell? ⟨lb, 5, none⟩ = some (.map none) := bcell bA (by omega) c5
  have af5 : A.frozen? ⟨lb, 5, none⟩ = false := (bfroz bA (by omega)).trans f5
  obtain ⟨l1, m1⟩ := h0.anew (V := W1) c5 (by rw [hA, hW1])
  have l1d := l1.mv (D := fun _ => False) (Mv.drew _ W1) (fun _ _ h => h)
  obtain ⟨b, hb⟩ : ∃ b, W0.heap.size = b := ⟨_, rfl⟩
  rw [hb] at hW1 l1d
  have d5 : W1.drew.cell? ⟨lb, 5, none⟩ = some (.map (some b)) := by show W1.cell? _ = _; rw [← hW1]; exact World.cell?_setCell_same _ _ _ a5
  have mw : Mv E w W1.drew := ((Mv.below b0).trans' m1).trans' (Mv.drew _ _)
  obtain ⟨V, hrun, fin'⟩ := setl_fin l1d mw (fun k hk => hk.imp id (fun e => by have := b0.size; omega)) d5 k at_ hl
  have fin := hidP fin'
  obtain ⟨u, hu⟩ : ∃ u, k.1.1 = u := ⟨_, rfl⟩
  obtain ⟨x, hx⟩ : ∃ x, k.1.2 = x := ⟨_, rfl⟩
  unfold kV at hrun
  rw [hu, hx] at hrun bx hW0 ⊢
  have nl : lb ≠ N := by omega
  have hS : (W1.drew.cell? ⟨N, 0, none⟩ = some (.string u) ∧ W1.drew.cell? ⟨N, 1, none⟩ = some (.string x)) ∧ W1.drew.cell? ⟨lb, 5, none⟩ = some (.map (some b)) := by
    have f : ∀ {j : Nat} {v : Value}, W0.cell? ⟨N, j, none⟩ = some v → W1.drew.cell? ⟨N, j, none⟩ = some v := fun {j v} c => by
      show W1.cell? _ = _
      rw [← hW1]
      exact (World.cell?_setCell_other _ _ _ _ (by first | (simp; omega) | simp)).trans (bcell bA (by omega) c)
    exact ⟨⟨f bx.1, f bx.2⟩, d5⟩
  have hbH := hidP hb
  have hmm : (Instr.makeMap 55 none).run Tryz.prog W0 = .ok (.map (some b)) A := by
    have := run_makeMap (P := Tryz.prog) 55 W0
    rw [hb, hA] at this
    exact this
  have heq : ∀ w, (binOp .eql 55 (.map none) (.map none)).run Tryz.prog w = .ok (.bool true) w := fun w => by first | kernel_rfl | rfl
  clear h h0 b0 s0 lE hu hx hm fin' hl l1 m1 l1d mw bA llb hb hA
  unfold lp
  go_enter Tryz.func10, Tryz.ntmps10
  go_wp2_with (first | rw [hW0] | rw [hW1])
  refine Zs.region (S := fun W => (W.cell? ⟨N, 0, none⟩ = some (.string u) ∧ W.cell? ⟨N, 1, none⟩ = some (.string x)) ∧ W.cell? ⟨lb, 5, none⟩ = some (.map (some b))) 6 (by kernel_rfl) ?_
  refine Zs.pure (i := 0) (oi := ⟨some 28, _, _, _, _, _⟩) (v := .pointer (some ⟨lb, 0, none⟩)) rfl (by kernel_rfl) (by kernel_rfl) (by kernel_rfl) (by decide) (fun _ _ _ h => h) (Or.inl ⟨by rfl, ?hy0⟩) hS ?_
  case hy0 => (intro w hSw; (try dsimp only at hSw); go_simp; try with_reducible rfl)
  simp only [Act.put, List.setIfInBounds_toArray, List.set_cons_zero, List.set_cons_succ]
  refine Zs.pure (i := 1) (oi := ⟨some 29, _, _, _, _, _⟩) (v := .pointer (some ⟨lb, 0, none⟩)) rfl (by kernel_rfl) (by kernel_rfl) (by kernel_rfl) (by decide) (fun _ _ _ h => h) (Or.inl ⟨by rfl, ?hy1⟩) hS ?_
  case hy1 => (intro w hSw; (try dsimp only at hSw); go_simp; try with_reducible rfl)
  simp only [Act.put, List.setIfInBounds_toArray, List.set_cons_zero, List.set_cons_succ]
  refine Zs.pure (i := 2) (oi := ⟨some 30, _, _, _, _, _⟩) (v := .pointer (some ⟨lb, 5, none⟩)) rfl (by kernel_rfl) (by kernel_rfl) (by kernel_rfl) (by decide) (fun _ _ _ h => h) (Or.inl ⟨by rfl, ?hy2⟩) hS ?_
  case hy2 => (intro w hSw; (try dsimp only at hSw); go_simp; try with_reducible rfl)
  simp only [Act.put, List.setIfInBounds_toArray, List.set_cons_zero, List.set_cons_succ]
  refine Zs.take (i := 3) (oi := ⟨some 31, _, _, _, _, _⟩) (v := .map (some b)) rfl (by kernel_rfl) (by kernel_rfl) (by kernel_rfl) (by decide) (by kernel_rfl) (by kernel_rfl) (fun _ _ _ h => h) (Or.inl ⟨by rfl, ?hy3⟩) hS ?_
  case hy3 => (intro w hSw; (try dsimp only at hSw); go_simp; try with_reducible rfl)
  simp only [Act.put, List.setIfInBounds_toArray, List.set_cons_zero, List.set_cons_succ]
  refine Zs.take (i := 4) (oi := ⟨some 32, _, _, _, _, _⟩) (v := .agg #[.string u, .string x]) rfl (by kernel_rfl) (by kernel_rfl) (by kernel_rfl) (by decide) (by kernel_rfl) (by kernel_rfl) (fun _ _ _ h => h) (Or.inl ⟨by rfl, ?hy4⟩) hS ?_
  case hy4 => (intro w hSw; (try dsimp only at hSw); go_simp; try with_reducible rfl)
  simp only [Act.put, List.setIfInBounds_toArray, List.set_cons_zero, List.set_cons_succ]
  refine Zs.pure (i := 5) (oi := ⟨some 33, _, _, _, _, _⟩) (v := .int .i64 at_) rfl (by kernel_rfl) (by kernel_rfl) (by kernel_rfl) (by decide) (fun _ _ _ h => h) (Or.inl ⟨by rfl, ?hy5⟩) hS ?_
  case hy5 => (intro w hSw; (try dsimp only at hSw); go_simp; try with_reducible rfl)
  simp only [Act.put, List.setIfInBounds_toArray, List.set_cons_zero, List.set_cons_succ]
  refine Zs.one (i := 6) (oi := ⟨none, _, _, _, _, _⟩) (by kernel_rfl) rfl (fun K hK => ?_)
  go_simp
  refine hK.out _ _ (fun q => absurd q (by decide)) ?_
  clear hK K
  try simp only [Act.put, List.setIfInBounds_toArray, List.set_cons_zero, List.set_cons_succ]
  refine Zs.done (by kernel_rfl) ?_ _
  clear hS
  go_wp2_with fail
  go_end0
  exact ⟨rfl, fin.out⟩
theorem setl_any {w : World} {lb : Nat} {E : Nat → Prop} {L : List Wt} {n : Nat} {T : List Du} (h : Lo w lb E L n T) (k : TK) (at_ : Int) (hat : at_ ≠ 9223372036854775807) (hl : T.length < 100000) :
    Calls Tryz.prog 10 #[lp lb, .string k.1.1, .string k.1.2, .int .i64 at_] w fun e V => e = .returned (.tuple #[]) ∧ Lg w lb E L n (setT k at_ T) V := by
  obtain ⟨mv, c5, f5, tm, _⟩ := h.tm
  rcases tm with ⟨rfl, _⟩ | ⟨b, rfl, _⟩
  · exact setl_nil h c5 k at_ hat hl
  · exact setl_some h c5 k at_ hat hl
end Go.Proofs.YtdcidlgmnnaahaaGreat
