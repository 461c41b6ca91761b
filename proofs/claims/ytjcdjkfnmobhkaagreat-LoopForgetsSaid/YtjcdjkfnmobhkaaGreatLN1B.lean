/- Next on a loop. -/
import Derived.Test.YtjcdjkfnmobhkaaGreatBi
namespace Go.Proofs.YtjcdjkfnmobhkaaGreat
open Go.RowKit Go.Shelf Go.Lib
attribute [local go_sem] Oper.semAt_some
theorem popl_none {w : World} {lb : Nat} {E : Nat → Prop} {n : Nat} {T : List Du} (h : Lo w lb E [] n T) :
    Calls Tryz.prog 33 #[lp lb] w fun e V => e = .returned (.tuple #[.agg #[.int .i64 0, .int .i64 0, .int .i64 0, .string ⟨#[]⟩, .string ⟨#[]⟩, .int .i64 0], .int .i64 130]) ∧ Below w.heap.size w V := by
  obtain ⟨Eq, B, mv, h1, _⟩ := h
  exact Qw.pop_none h1
theorem popl_some {w : World} {lb : Nat} {E : Nat → Prop} {y : Wt} {L : List Wt} {n : Nat} {T : List Du} (h : Lo w lb E (y :: L) n T) :
    Calls Tryz.prog 33 #[lp lb] w fun e V => e = .returned (.tuple #[.agg #[.int .i64 y.k, .int .i64 y.p, .int .i64 y.s, .string y.u, .string y.x, .int .i64 y.n], .int .i64 0]) ∧ Lg w lb E L n T V := by
  obtain ⟨Eq, B, mv, h1, h2, h3, h4, h5, h6, h7, h8⟩ := h
  have hn0 : n ≠ 0 := by have := (Qu.q h1).2.2.1; rw [List.length_cons] at this; omega
  refine (Qw.pop_some (bfq hn0 mv) h1).mono ?_
  rintro e V ⟨rfl, E', B', u1, m, g, gb⟩
  have lm : ∀ k, mbk mv = some k → k < w.heap.size := fun k hk => h3.lt hk
  have ne : ∀ k, mbk mv = some k → ¬ Eq k := fun k hk => (h6 k hk).1
  refine ⟨rfl, fun k => E' k ∨ B' k ∨ mbk mv = some k, ⟨E', B', mv, u1, fun e => absurd e hn0, h3.mv m ne, h4, fun k => Iff.rfl, fun k hk => ⟨fun e => ?_, fun e => ?_⟩, fun y hy => h7 y (List.mem_cons_of_mem _ hy), h8⟩, m.mono fun k _ e => (h5 k).2 (.inl e), fun k hk => ?_⟩
  · rcases g k e with s | s
    · exact ne k hk s
    · have := lm k hk; omega
  · rcases gb k e with s | s
    · exact (h6 k hk).2 s
    · have := lm k hk; omega
  · rcases hk with e | e | e
    · exact (g k e).imp (fun s => (h5 k).2 (.inl s)) id
    · exact (gb k e).imp (fun s => (h5 k).2 (.inr (.inl s))) id
    · exact .inl ((h5 k).2 (.inr (.inr e)))
/-- Boxes beside may turn. -/
theorem Lg.beside {w w0 V U : World} {lb : Nat} {E : Nat → Prop} {L : List Wt} {n : Nat} {T : List Du} {D : Nat → Prop} (b : Below w.heap.size w w0) (hE : ∀ k, E k → k < w.heap.size) (h : Lg w0 lb E L n T V) (m : Mv D V U) (hD : ∀ k, D k → w.heap.size ≤ k ∧ (k < w0.heap.size ∨ V.heap.size ≤ k)) : Lg w lb E L n T U := by
  obtain ⟨E', h1, h2, h3⟩ := h
  refine ⟨E', h1.mv m (fun k hk d => ?_), ((Mv.below b).trans' h2).trans (E' := D) (fun k d => .inr (hD k d).1) m, Gr.mono b.size h3⟩
  have := hD k d
  have l1 := h1.lt.1 k hk
  rcases h3 k hk with s | s
  · have := hE k s; omega
  · omega
set_option maxRecDepth 100000 in
set_option maxHeartbeats 4000000 in
theorem nextl_some {w : World} {lb : Nat} {E : Nat → Prop} {y : Wt} {L : List Wt} {n : Nat} {T : List Du} (h : Lo w lb E (y :: L) n T) :
    Calls Tryz.prog 11 #[lp lb] w fun e V => e = .returned (.tuple #[.agg #[.int .i64 y.k, .int .i64 y.p, .int .i64 y.s, .string y.u, .string y.x], .bool true]) ∧ Lg w lb E L n T V := by
  obtain ⟨N, hN⟩ : ∃ N, w.heap.size = N := ⟨_, rfl⟩
  obtain ⟨W0, hW0⟩ : ∃ W0, w.alloc (.cells #[.int .i64 0, .int .i64 0, .int .i64 0, .string ⟨#[]⟩, .string ⟨#[]⟩] 32) = W0 := ⟨_, rfl⟩
  have b0 : Below w.heap.size w W0 := by rw [← hW0]; exact (Below.refl _ _).alloc (Nat.le_refl _) _
  have s0 : W0.heap.size = N + 1 := by rw [← hW0]; simp [hN]
  have bx : ∀ j v, #[.int .i64 0, .int .i64 0, .int .i64 0, .string ⟨#[]⟩, .string ⟨#[]⟩][j]? = some v → W0.cell? ⟨N, j, none⟩ = some v := fun j v hj => by rw [← hW0]; exact cell_at hN hj
  have fx : ∀ j, W0.frozen? ⟨N, j, none⟩ = false := fun j => by rw [← hW0]; exact froz_new hN
  have lE := h.lt.1
  have hP := hidP (popl_some (h.below b0))
  have fin : Hid (∀ V1, Lg W0 lb E L n T V1 → ∃ V2 V3, V1.alloc (.cells #[.int .i64 y.k, .int .i64 y.p, .int .i64 y.s, .string y.u, .string y.x, .int .i64 y.n] 77) = V2 ∧ (V2.cell? ⟨V1.heap.size, 0, none⟩ = some (.int .i64 y.k) ∧ V2.cell? ⟨V1.heap.size, 1, none⟩ = some (.int .i64 y.p) ∧ V2.cell? ⟨V1.heap.size, 2, none⟩ = some (.int .i64 y.s) ∧ V2.cell? ⟨V1.heap.size, 3, none⟩ = some (.string y.u) ∧ V2.cell? ⟨V1.heap.size, 4, none⟩ = some (.string y.x) ∧ V2.cell? ⟨V1.heap.size, 5, none⟩ = some (.int .i64 y.n)) ∧ (V2.cell? ⟨N, 0, none⟩ = some (.int .i64 0) ∧ V2.cell? ⟨N, 1, none⟩ = some (.int .i64 0) ∧ V2.cell? ⟨N, 2, none⟩ = some (.int .i64 0) ∧ V2.cell? ⟨N, 3, none⟩ = some (.string ⟨#[]⟩) ∧ V2.cell? ⟨N, 4, none⟩ = some (.string ⟨#[]⟩)) ∧ (V2.frozen? ⟨N, 0, none⟩ = false ∧ V2.frozen? ⟨N, 1, none⟩ = false ∧ V2.frozen? ⟨N, 2, none⟩ = false ∧ V2.frozen? ⟨N, 3, none⟩ = false ∧ V2.frozen? ⟨N, 4, none⟩ = false) ∧ (((((V2.setCell ⟨N, 0, none⟩ (.int .i64 y.k)).setCell ⟨N, 1, none⟩ (.int .i64 y.p)).setCell ⟨N, 2, none⟩ (.int .i64 y.s)).setCell ⟨N, 3, none⟩ (.string y.u)).setCell ⟨N, 4, none⟩ (.string y.x)) = V3 ∧ (V3.cell? ⟨N, 0, none⟩ = some (.int .i64 y.k) ∧ V3.cell? ⟨N, 1, none⟩ = some (.int .i64 y.p) ∧ V3.cell? ⟨N, 2, none⟩ = some (.int .i64 y.s) ∧ V3.cell? ⟨N, 3, none⟩ = some (.string y.u) ∧ V3.cell? ⟨N, 4, none⟩ = some (.string y.x)) ∧ Lg w lb E L n T V3) := by
    intro V1 hl
    have hlm : Mv E W0 V1 := by obtain ⟨E1, _, m, _⟩ := hl; exact m
    have nE : ¬ E N := fun e => by have := lE N e; omega
    have lN : N < V1.heap.size := by have := hlm.size; omega
    obtain ⟨V2, hV2⟩ : ∃ V2, V1.alloc (.cells #[.int .i64 y.k, .int .i64 y.p, .int .i64 y.s, .string y.u, .string y.x, .int .i64 y.n] 77) = V2 := ⟨_, rfl⟩
    have b2 : Below V1.heap.size V1 V2 := by rw [← hV2]; exact (Below.refl _ _).alloc (Nat.le_refl _) _
    have cy : ∀ j v, #[.int .i64 y.k, .int .i64 y.p, .int .i64 y.s, .string y.u, .string y.x, .int .i64 y.n][j]? = some v → V2.cell? ⟨V1.heap.size, j, none⟩ = some v := fun j v hj => by rw [← hV2]; exact cell_at rfl hj
    have cz : ∀ j v, #[.int .i64 0, .int .i64 0, .int .i64 0, .string ⟨#[]⟩, .string ⟨#[]⟩][j]? = some v → V2.cell? ⟨N, j, none⟩ = some v := fun j v hj => bcell b2 lN (hlm.cell (a := ⟨N, j, none⟩) nE (bx j v hj))
    have cf : ∀ j, V2.frozen? ⟨N, j, none⟩ = false := fun j => (bfroz b2 lN).trans ((hlm.froz (a := ⟨N, j, none⟩) nE (by rw [s0]; exact Nat.lt_succ_self N)).trans (fx j))
    have k := Cv.cells V2 N 0 [.int .i64 y.k, .int .i64 y.p, .int .i64 y.s, .string y.u, .string y.x]
    obtain ⟨V3, hV3⟩ : ∃ V3, (((((V2.setCell ⟨N, 0, none⟩ (.int .i64 y.k)).setCell ⟨N, 1, none⟩ (.int .i64 y.p)).setCell ⟨N, 2, none⟩ (.int .i64 y.s)).setCell ⟨N, 3, none⟩ (.string y.u)).setCell ⟨N, 4, none⟩ (.string y.x)) = V3 := ⟨_, rfl⟩
    have m3 : Mv (fun k => k = N) V2 V3 := by rw [← hV3]; exact k.mv.mono fun k _ s => by obtain ⟨j, s, _⟩ := s; exact s
    refine ⟨V2, V3, hV2, ⟨cy 0 _ rfl, cy 1 _ rfl, cy 2 _ rfl, cy 3 _ rfl, cy 4 _ rfl, cy 5 _ rfl⟩, ⟨cz 0 _ rfl, cz 1 _ rfl, cz 2 _ rfl, cz 3 _ rfl, cz 4 _ rfl⟩, ⟨cf 0, cf 1, cf 2, cf 3, cf 4⟩, hV3, ⟨by rw [← hV3]; exact ((World.cell?_setCell_other _ _ _ _ (by simp)).trans ((World.cell?_setCell_other _ _ _ _ (by simp)).trans ((World.cell?_setCell_other _ _ _ _ (by simp)).trans ((World.cell?_setCell_other _ _ _ _ (by simp)).trans (World.cell?_setCell_same _ _ _ (cz 0 _ rfl)))))), by rw [← hV3]; exact ((World.cell?_setCell_other _ _ _ _ (by simp)).trans ((World.cell?_setCell_other _ _ _ _ (by simp)).trans ((World.cell?_setCell_other _ _ _ _ (by simp)).trans (World.cell?_setCell_same _ _ _ ((World.cell?_setCell_other _ _ _ _ (by simp)).trans (cz 1 _ rfl)))))), by rw [← hV3]; exact ((World.cell?_setCell_other _ _ _ _ (by simp)).trans ((World.cell?_setCell_other _ _ _ _ (by simp)).trans (World.cell?_setCell_same _ _ _ ((World.cell?_setCell_other _ _ _ _ (by simp)).trans ((World.cell?_setCell_other _ _ _ _ (by simp)).trans (cz 2 _ rfl)))))), by rw [← hV3]; exact ((World.cell?_setCell_other _ _ _ _ (by simp)).trans (World.cell?_setCell_same _ _ _ ((World.cell?_setCell_other _ _ _ _ (by simp)).trans ((World.cell?_setCell_other _ _ _ _ (by simp)).trans ((World.cell?_setCell_other _ _ _ _ (by simp)).trans (cz 3 _ rfl)))))), by rw [← hV3]; exact (World.cell?_setCell_same _ _ _ ((World.cell?_setCell_other _ _ _ _ (by simp)).trans ((World.cell?_setCell_other _ _ _ _ (by simp)).trans ((World.cell?_setCell_other _ _ _ _ (by simp)).trans ((World.cell?_setCell_other _ _ _ _ (by simp)).trans (cz 4 _ rfl))))))⟩, ?_⟩
    exact Lg.beside (D := fun k => k = N ∨ V1.heap.size ≤ k) b0 lE hl (((Mv.below b2).trans (E := fun k => k = N ∨ V1.heap.size ≤ k) (E' := fun k => k = N) (fun k e => .inl (.inl e)) m3)) (fun k d => by rcases d with d | d <;> omega)
  clear s0 bx fx lE h b0
  unfold lp at *
  go_enter Tryz.func11, Tryz.ntmps11
  go_wp2_with (rw [hW0])
  refine hP.out.mono ?_
  rintro e V1 ⟨rfl, hl⟩
  obtain ⟨V2, V3, hV2, cy, cz, cf, hV3, c7, hg⟩ := fin.out V1 hl
  have hgH := hidP hg
  clear hg fin hP hl
  go_wp2_with (first | rw [hV2] | rw [hV3])
  refine bodyPost_ret (v := .tuple #[.agg #[.int .i64 y.k, .int .i64 y.p, .int .i64 y.s, .string y.u, .string y.x], .bool true]) (by simp [results, Tryz.results11, go_sem, c7]) rfl ⟨rfl, hgH.out⟩
set_option maxRecDepth 100000 in
set_option maxHeartbeats 4000000 in
theorem nextl_none {w : World} {lb : Nat} {E : Nat → Prop} {n : Nat} {T : List Du} (h : Lo w lb E [] n T) :
    Calls Tryz.prog 11 #[lp lb] w fun e V => e = .returned (.tuple #[.agg #[.int .i64 0, .int .i64 0, .int .i64 0, .string ⟨#[]⟩, .string ⟨#[]⟩], .bool false]) ∧ Below w.heap.size w V := by
  obtain ⟨N, hN⟩ : ∃ N, w.heap.size = N := ⟨_, rfl⟩
  obtain ⟨W0, hW0⟩ : ∃ W0, w.alloc (.cells #[.int .i64 0, .int .i64 0, .int .i64 0, .string ⟨#[]⟩, .string ⟨#[]⟩] 32) = W0 := ⟨_, rfl⟩
  have b0 : Below w.heap.size w W0 := by rw [← hW0]; exact (Below.refl _ _).alloc (Nat.le_refl _) _
  have s0 : W0.heap.size = N + 1 := by rw [← hW0]; simp [hN]
  have bx : ∀ j v, #[.int .i64 0, .int .i64 0, .int .i64 0, .string ⟨#[]⟩, .string ⟨#[]⟩][j]? = some v → W0.cell? ⟨N, j, none⟩ = some v := fun j v hj => by rw [← hW0]; exact cell_at hN hj
  have fx : ∀ j, W0.frozen? ⟨N, j, none⟩ = false := fun j => by rw [← hW0]; exact froz_new hN
  have lE := h.lt.1
  have hP := hidP (popl_none (h.below b0))
  have fin : Hid (∀ V1, Below W0.heap.size W0 V1 → ∃ A0 V2 V3, V1.alloc (.cells #[.int .i64 0, .int .i64 0, .int .i64 0, .string ⟨#[]⟩, .string ⟨#[]⟩, .int .i64 0] 77) = A0 ∧ (A0.cell? ⟨V1.heap.size, 0, none⟩ = some (.int .i64 0) ∧ A0.cell? ⟨V1.heap.size, 1, none⟩ = some (.int .i64 0) ∧ A0.cell? ⟨V1.heap.size, 2, none⟩ = some (.int .i64 0) ∧ A0.cell? ⟨V1.heap.size, 3, none⟩ = some (.string ⟨#[]⟩) ∧ A0.cell? ⟨V1.heap.size, 4, none⟩ = some (.string ⟨#[]⟩) ∧ A0.cell? ⟨V1.heap.size, 5, none⟩ = some (.int .i64 0)) ∧ (A0.frozen? ⟨V1.heap.size, 0, none⟩ = false ∧ A0.frozen? ⟨V1.heap.size, 1, none⟩ = false ∧ A0.frozen? ⟨V1.heap.size, 2, none⟩ = false ∧ A0.frozen? ⟨V1.heap.size, 3, none⟩ = false ∧ A0.frozen? ⟨V1.heap.size, 4, none⟩ = false ∧ A0.frozen? ⟨V1.heap.size, 5, none⟩ = false) ∧ ((((((A0.setCell ⟨V1.heap.size, 0, none⟩ (.int .i64 0)).setCell ⟨V1.heap.size, 1, none⟩ (.int .i64 0)).setCell ⟨V1.heap.size, 2, none⟩ (.int .i64 0)).setCell ⟨V1.heap.size, 3, none⟩ (.string ⟨#[]⟩)).setCell ⟨V1.heap.size, 4, none⟩ (.string ⟨#[]⟩)).setCell ⟨V1.heap.size, 5, none⟩ (.int .i64 0)) = V2 ∧ (V2.cell? ⟨V1.heap.size, 0, none⟩ = some (.int .i64 0) ∧ V2.cell? ⟨V1.heap.size, 1, none⟩ = some (.int .i64 0) ∧ V2.cell? ⟨V1.heap.size, 2, none⟩ = some (.int .i64 0) ∧ V2.cell? ⟨V1.heap.size, 3, none⟩ = some (.string ⟨#[]⟩) ∧ V2.cell? ⟨V1.heap.size, 4, none⟩ = some (.string ⟨#[]⟩) ∧ V2.cell? ⟨V1.heap.size, 5, none⟩ = some (.int .i64 0)) ∧ (V2.cell? ⟨N, 0, none⟩ = some (.int .i64 0) ∧ V2.cell? ⟨N, 1, none⟩ = some (.int .i64 0) ∧ V2.cell? ⟨N, 2, none⟩ = some (.int .i64 0) ∧ V2.cell? ⟨N, 3, none⟩ = some (.string ⟨#[]⟩) ∧ V2.cell? ⟨N, 4, none⟩ = some (.string ⟨#[]⟩)) ∧ (V2.frozen? ⟨N, 0, none⟩ = false ∧ V2.frozen? ⟨N, 1, none⟩ = false ∧ V2.frozen? ⟨N, 2, none⟩ = false ∧ V2.frozen? ⟨N, 3, none⟩ = false ∧ V2.frozen? ⟨N, 4, none⟩ = false) ∧ (((((V2.setCell ⟨N, 0, none⟩ (.int .i64 0)).setCell ⟨N, 1, none⟩ (.int .i64 0)).setCell ⟨N, 2, none⟩ (.int .i64 0)).setCell ⟨N, 3, none⟩ (.string ⟨#[]⟩)).setCell ⟨N, 4, none⟩ (.string ⟨#[]⟩)) = V3 ∧ (V3.cell? ⟨N, 0, none⟩ = some (.int .i64 0) ∧ V3.cell? ⟨N, 1, none⟩ = some (.int .i64 0) ∧ V3.cell? ⟨N, 2, none⟩ = some (.int .i64 0) ∧ V3.cell? ⟨N, 3, none⟩ = some (.string ⟨#[]⟩) ∧ V3.cell? ⟨N, 4, none⟩ = some (.string ⟨#[]⟩)) ∧ Below w.heap.size w V3) := by
    intro V1 hl
    have hlm : Mv E W0 V1 := Mv.below hl
    have nE : ¬ E N := fun e => by have := lE N e; omega
    have lN : N < V1.heap.size := by have := hlm.size; omega
    obtain ⟨A0, hA0⟩ : ∃ A0, V1.alloc (.cells #[.int .i64 0, .int .i64 0, .int .i64 0, .string ⟨#[]⟩, .string ⟨#[]⟩, .int .i64 0] 77) = A0 := ⟨_, rfl⟩
    have ca : ∀ j v, #[.int .i64 0, .int .i64 0, .int .i64 0, .string ⟨#[]⟩, .string ⟨#[]⟩, .int .i64 0][j]? = some v → A0.cell? ⟨V1.heap.size, j, none⟩ = some v := fun j v hj => by rw [← hA0]; exact cell_at rfl hj
    have fa : ∀ j, A0.frozen? ⟨V1.heap.size, j, none⟩ = false := fun j => by rw [← hA0]; exact froz_new rfl
    obtain ⟨V2, hV2⟩ : ∃ V2, ((((((A0.setCell ⟨V1.heap.size, 0, none⟩ (.int .i64 0)).setCell ⟨V1.heap.size, 1, none⟩ (.int .i64 0)).setCell ⟨V1.heap.size, 2, none⟩ (.int .i64 0)).setCell ⟨V1.heap.size, 3, none⟩ (.string ⟨#[]⟩)).setCell ⟨V1.heap.size, 4, none⟩ (.string ⟨#[]⟩)).setCell ⟨V1.heap.size, 5, none⟩ (.int .i64 0)) = V2 := ⟨_, rfl⟩
    have ka := Cv.cells A0 V1.heap.size 0 [.int .i64 0, .int .i64 0, .int .i64 0, .string ⟨#[]⟩, .string ⟨#[]⟩, .int .i64 0]
    have b2 : Below V1.heap.size V1 V2 := by
      refine ((Below.refl _ _).alloc (Nat.le_refl _) (.cells #[.int .i64 0, .int .i64 0, .int .i64 0, .string ⟨#[]⟩, .string ⟨#[]⟩, .int .i64 0] 77)).trans ?_
      rw [hA0, ← hV2]
      exact ka.mv.toBelow (by rw [← hA0]; simp) (fun k hk e => by obtain ⟨j, e, _⟩ := e; omega)
    have cz : ∀ j v, #[.int .i64 0, .int .i64 0, .int .i64 0, .string ⟨#[]⟩, .string ⟨#[]⟩][j]? = some v → V2.cell? ⟨N, j, none⟩ = some v := fun j v hj => bcell b2 lN (hlm.cell (a := ⟨N, j, none⟩) nE (bx j v hj))
    have cf : ∀ j, V2.frozen? ⟨N, j, none⟩ = false := fun j => (bfroz b2 lN).trans ((hlm.froz (a := ⟨N, j, none⟩) nE (by rw [s0]; exact Nat.lt_succ_self N)).trans (fx j))
    have k := Cv.cells V2 N 0 [.int .i64 0, .int .i64 0, .int .i64 0, .string ⟨#[]⟩, .string ⟨#[]⟩]
    obtain ⟨V3, hV3⟩ : ∃ V3, (((((V2.setCell ⟨N, 0, none⟩ (.int .i64 0)).setCell ⟨N, 1, none⟩ (.int .i64 0)).setCell ⟨N, 2, none⟩ (.int .i64 0)).setCell ⟨N, 3, none⟩ (.string ⟨#[]⟩)).setCell ⟨N, 4, none⟩ (.string ⟨#[]⟩)) = V3 := ⟨_, rfl⟩
    have m3 : Mv (fun k => k = N) V2 V3 := by rw [← hV3]; exact k.mv.mono fun k _ s => by obtain ⟨j, s, _⟩ := s; exact s
    refine ⟨A0, V2, V3, hA0, ⟨ca 0 _ rfl, ca 1 _ rfl, ca 2 _ rfl, ca 3 _ rfl, ca 4 _ rfl, ca 5 _ rfl⟩, ⟨fa 0, fa 1, fa 2, fa 3, fa 4, fa 5⟩, hV2, ⟨by rw [← hV2]; exact ((World.cell?_setCell_other _ _ _ _ (by simp)).trans ((World.cell?_setCell_other _ _ _ _ (by simp)).trans ((World.cell?_setCell_other _ _ _ _ (by simp)).trans ((World.cell?_setCell_other _ _ _ _ (by simp)).trans ((World.cell?_setCell_other _ _ _ _ (by simp)).trans (World.cell?_setCell_same _ _ _ (ca 0 _ rfl))))))), by rw [← hV2]; exact ((World.cell?_setCell_other _ _ _ _ (by simp)).trans ((World.cell?_setCell_other _ _ _ _ (by simp)).trans ((World.cell?_setCell_other _ _ _ _ (by simp)).trans ((World.cell?_setCell_other _ _ _ _ (by simp)).trans (World.cell?_setCell_same _ _ _ ((World.cell?_setCell_other _ _ _ _ (by simp)).trans (ca 1 _ rfl))))))), by rw [← hV2]; exact ((World.cell?_setCell_other _ _ _ _ (by simp)).trans ((World.cell?_setCell_other _ _ _ _ (by simp)).trans ((World.cell?_setCell_other _ _ _ _ (by simp)).trans (World.cell?_setCell_same _ _ _ ((World.cell?_setCell_other _ _ _ _ (by simp)).trans ((World.cell?_setCell_other _ _ _ _ (by simp)).trans (ca 2 _ rfl))))))), by rw [← hV2]; exact ((World.cell?_setCell_other _ _ _ _ (by simp)).trans ((World.cell?_setCell_other _ _ _ _ (by simp)).trans (World.cell?_setCell_same _ _ _ ((World.cell?_setCell_other _ _ _ _ (by simp)).trans ((World.cell?_setCell_other _ _ _ _ (by simp)).trans ((World.cell?_setCell_other _ _ _ _ (by simp)).trans (ca 3 _ rfl))))))), by rw [← hV2]; exact ((World.cell?_setCell_other _ _ _ _ (by simp)).trans (World.cell?_setCell_same _ _ _ ((World.cell?_setCell_other _ _ _ _ (by simp)).trans ((World.cell?_setCell_other _ _ _ _ (by simp)).trans ((World.cell?_setCell_other _ _ _ _ (by simp)).trans ((World.cell?_setCell_other _ _ _ _ (by simp)).trans (ca 4 _ rfl))))))), by rw [← hV2]; exact (World.cell?_setCell_same _ _ _ ((World.cell?_setCell_other _ _ _ _ (by simp)).trans ((World.cell?_setCell_other _ _ _ _ (by simp)).trans ((World.cell?_setCell_other _ _ _ _ (by simp)).trans ((World.cell?_setCell_other _ _ _ _ (by simp)).trans ((World.cell?_setCell_other _ _ _ _ (by simp)).trans (ca 5 _ rfl)))))))⟩, ⟨cz 0 _ rfl, cz 1 _ rfl, cz 2 _ rfl, cz 3 _ rfl, cz 4 _ rfl⟩, ⟨cf 0, cf 1, cf 2, cf 3, cf 4⟩, hV3, ⟨by rw [← hV3]; exact ((World.cell?_setCell_other _ _ _ _ (by simp)).trans ((World.cell?_setCell_other _ _ _ _ (by simp)).trans ((World.cell?_setCell_other _ _ _ _ (by simp)).trans ((World.cell?_setCell_other _ _ _ _ (by simp)).trans (World.cell?_setCell_same _ _ _ (cz 0 _ rfl)))))), by rw [← hV3]; exact ((World.cell?_setCell_other _ _ _ _ (by simp)).trans ((World.cell?_setCell_other _ _ _ _ (by simp)).trans ((World.cell?_setCell_other _ _ _ _ (by simp)).trans (World.cell?_setCell_same _ _ _ ((World.cell?_setCell_other _ _ _ _ (by simp)).trans (cz 1 _ rfl)))))), by rw [← hV3]; exact ((World.cell?_setCell_other _ _ _ _ (by simp)).trans ((World.cell?_setCell_other _ _ _ _ (by simp)).trans (World.cell?_setCell_same _ _ _ ((World.cell?_setCell_other _ _ _ _ (by simp)).trans ((World.cell?_setCell_other _ _ _ _ (by simp)).trans (cz 2 _ rfl)))))), by rw [← hV3]; exact ((World.cell?_setCell_other _ _ _ _ (by simp)).trans (World.cell?_setCell_same _ _ _ ((World.cell?_setCell_other _ _ _ _ (by simp)).trans ((World.cell?_setCell_other _ _ _ _ (by simp)).trans ((World.cell?_setCell_other _ _ _ _ (by simp)).trans (cz 3 _ rfl)))))), by rw [← hV3]; exact (World.cell?_setCell_same _ _ _ ((World.cell?_setCell_other _ _ _ _ (by simp)).trans ((World.cell?_setCell_other _ _ _ _ (by simp)).trans ((World.cell?_setCell_other _ _ _ _ (by simp)).trans ((World.cell?_setCell_other _ _ _ _ (by simp)).trans (cz 4 _ rfl))))))⟩, ?_⟩
    exact (((b0.trans (hl.mono b0.size)).trans (b2.mono (by omega))).trans (m3.toBelow (by have := b2.size; omega) (fun k hk e => by omega)))
  clear s0 bx fx lE h b0
  unfold lp at *
  go_enter Tryz.func11, Tryz.ntmps11
  go_wp2_with (rw [hW0])
  refine hP.out.mono ?_
  rintro e V1 ⟨rfl, hl⟩
  obtain ⟨A0, V2, V3, hA0, ca, fa, hV2, cy, cz, cf, hV3, c7, hg⟩ := fin.out V1 hl
  have hgH := hidP hg
  clear hg fin hP hl
  go_wp2_with (first | rw [hA0] | rw [hV2] | rw [hV3])
  refine bodyPost_ret (v := .tuple #[.agg #[.int .i64 0, .int .i64 0, .int .i64 0, .string ⟨#[]⟩, .string ⟨#[]⟩], .bool false]) (by simp [results, Tryz.results11, go_sem, c7]) rfl ⟨rfl, hgH.out⟩
end Go.Proofs.YtjcdjkfnmobhkaaGreat
