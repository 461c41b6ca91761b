import Derived.Test.YteimalemecgomaaGreatQtTB
import Derived.Test.YteimalemecgomaaGreatBc
/- Whether one is ahead of another: of structs. -/
namespace Go.Proofs.YteimalemecgomaaGreat.Qt
open Go.RowKit Go.Shelf Go.Lib
attribute [local go_sem] Oper.semAt_some
/-- A function that tells whether one's key is less than another's. -/
structure Bf (nb : Nat) (key : El → Int) : Prop where
  eg : ∀ args w, (callFunc nb args).run Tryz.prog w = .ok (.enter nb args) w
  ca : ∀ (a b : El) (w : World), Calls Tryz.prog nb #[ev a, ev b] w fun e w' => e = .returned (.bool (decide (key a < key b))) ∧ Below w.heap.size w w'
def fnV (nb : Nat) : Value := .func (.func nb) #[] #[]
set_option maxRecDepth 100000 in
set_option maxHeartbeats 2000000 in
theorem ahead_any {nb : Nat} {key : El → Int} (hB : Bf nb key) (q : Nat) (a b : El) (w : World) (hq : w.cell? ⟨q, 0, none⟩ = some (fnV nb)) :
    Calls Tryz.prog 79 #[.pointer (some ⟨q, 0, none⟩), ev a, ev b] w fun e w' => e = .returned (.bool (decide (key a < key b))) ∧ Below w.heap.size w w' := by
  unfold fnV at hq
  obtain ⟨n, hn⟩ : ∃ n, w.heap.size = n := ⟨_, rfl⟩
  obtain ⟨W0, hW0⟩ : ∃ W0, (w.alloc (.cells #[vc0 a, vc1 a] 27)).alloc (.cells #[vc0 b, vc1 b] 27) = W0 := ⟨_, rfl⟩
  have b0 : Below w.heap.size w W0 := by rw [← hW0]; exact ((Below.refl _ _).alloc (Nat.le_refl _) _).alloc (by simp) _
  have s0 : W0.heap.size = n + 2 := by rw [← hW0]; simp [hn]
  have ka : ∀ j u, #[vc0 a, vc1 a][j]? = some u → W0.cell? ⟨n, j, none⟩ = some u := fun j u hj => by rw [← hW0]; exact (Mv.alloc (fun _ => False) _ _).cell (fun h => h) (cell_at hn hj)
  have kb : ∀ j u, #[vc0 b, vc1 b][j]? = some u → W0.cell? ⟨n + 1, j, none⟩ = some u := fun j u hj => by rw [← hW0]; exact cell_at (by simp [hn]) hj
  have hS : W0.drew.cell? ⟨q, 0, none⟩ = some (.func (.func nb) #[] #[]) ∧ (W0.drew.cell? ⟨n, 0, none⟩ = some (vc0 a) ∧ W0.drew.cell? ⟨n, 1, none⟩ = some (vc1 a)) ∧ (W0.drew.cell? ⟨n + 1, 0, none⟩ = some (vc0 b) ∧ W0.drew.cell? ⟨n + 1, 1, none⟩ = some (vc1 b)) := ⟨bcell b0 (cell_lt hq) hq, ⟨ka 0 _ rfl, ka 1 _ rfl⟩, ⟨kb 0 _ rfl, kb 1 _ rfl⟩⟩
  obtain ⟨r, hr0⟩ : ∃ r, decide (key a < key b) = r := ⟨_, rfl⟩
  have hC : Hid (Calls Tryz.prog nb #[ev a, ev b] W0.drew fun e w' => e = .returned (.bool r) ∧ (w'.cell? ⟨q, 0, none⟩ = some (.func (.func nb) #[] #[]) ∧ (w'.cell? ⟨n, 0, none⟩ = some (vc0 a) ∧ w'.cell? ⟨n, 1, none⟩ = some (vc1 a)) ∧ (w'.cell? ⟨n + 1, 0, none⟩ = some (vc0 b) ∧ w'.cell? ⟨n + 1, 1, none⟩ = some (vc1 b))) ∧ Below w.heap.size w w') := by
    refine (hB.ca a b W0.drew).mono ?_
    rintro e w' ⟨rfl, hb⟩
    have f : ∀ {k j : Nat} {v : Value}, W0.drew.cell? ⟨k, j, none⟩ = some v → w'.cell? ⟨k, j, none⟩ = some v := fun {k j v} c => bcell hb (cell_lt c) c
    refine ⟨by rw [hr0], ⟨f hS.1, ?_, ?_⟩, (b0.trans ((Below.refl _ _).drew)).trans (hb.mono b0.size)⟩
    · have c := hS.2.1
      exact ⟨f (by first | exact c.1 | exact c.2), f (by first | exact c.1 | exact c.2)⟩
    · have c := hS.2.2
      exact ⟨f (by first | exact c.1 | exact c.2), f (by first | exact c.1 | exact c.2)⟩
  have eg := hB.eg
  have hne : ∀ w, (binOp .neq 28 (.func (.func nb) #[] #[]) Value.nilFunc).run Tryz.prog w = .ok (.bool true) w := fun w => by first | kernel_rfl | rfl
  rw [hr0]
  clear hB hr0 b0 s0 ka kb
  go_enter Tryz.func79, Tryz.ntmps79
  go_wp2_with (rw [hW0])
  refine Zs.region (S := fun W => W.cell? ⟨q, 0, none⟩ = some (.func (.func nb) #[] #[]) ∧ (W.cell? ⟨n, 0, none⟩ = some (vc0 a) ∧ W.cell? ⟨n, 1, none⟩ = some (vc1 a)) ∧ (W.cell? ⟨n + 1, 0, none⟩ = some (vc0 b) ∧ W.cell? ⟨n + 1, 1, none⟩ = some (vc1 b))) 14 (by kernel_rfl) ?_
  refine Zs.pure (i := 0) (oi := ⟨some 7, _, _, _, _, _⟩) (v := .pointer (some ⟨q, 0, none⟩)) rfl (by kernel_rfl) (by kernel_rfl) (by kernel_rfl) (by decide) (fun _ _ _ h => h) (Or.inl ⟨by rfl, ?hy0⟩) hS ?_
  case hy0 => (intro w hSw; (try dsimp only at hSw); go_simp; try with_reducible rfl)
  simp only [Act.put, List.setIfInBounds_toArray, List.set_cons_zero, List.set_cons_succ]
  refine Zs.pure (i := 1) (oi := ⟨some 8, _, _, _, _, _⟩) (v := .pointer (some ⟨q, 0, none⟩)) rfl (by kernel_rfl) (by kernel_rfl) (by kernel_rfl) (by decide) (fun _ _ _ h => h) (Or.inl ⟨by rfl, ?hy1⟩) hS ?_
  case hy1 => (intro w hSw; (try dsimp only at hSw); go_simp; try with_reducible rfl)
  simp only [Act.put, List.setIfInBounds_toArray, List.set_cons_zero, List.set_cons_succ]
  refine Zs.pure (i := 2) (oi := ⟨some 9, _, _, _, _, _⟩) (v := .pointer (some ⟨q, 0, none⟩)) rfl (by kernel_rfl) (by kernel_rfl) (by kernel_rfl) (by decide) (fun _ _ _ h => h) (Or.inl ⟨by rfl, ?hy2⟩) hS ?_
  case hy2 => (intro w hSw; (try dsimp only at hSw); go_simp; try with_reducible rfl)
  simp only [Act.put, List.setIfInBounds_toArray, List.set_cons_zero, List.set_cons_succ]
  refine Zs.take (i := 3) (oi := ⟨some 10, _, _, _, _, _⟩) (v := .func (.func nb) #[] #[]) rfl (by kernel_rfl) (by kernel_rfl) (by kernel_rfl) (by decide) (by kernel_rfl) (by kernel_rfl) (fun _ _ _ h => h) (Or.inl ⟨by rfl, ?hy3⟩) hS ?_
  case hy3 => (intro w hSw; (try dsimp only at hSw); go_simp; try with_reducible rfl)
  simp only [Act.put, List.setIfInBounds_toArray, List.set_cons_zero, List.set_cons_succ]
  refine Zs.pure (i := 4) (oi := ⟨some 11, _, _, _, _, _⟩) (v := .bool true) rfl (by kernel_rfl) (by kernel_rfl) (by kernel_rfl) (by decide) (fun _ _ _ h => h) (Or.inl ⟨by rfl, ?hy4⟩) hS ?_
  case hy4 => (intro w hSw; (try dsimp only at hSw); go_simp; try with_reducible rfl)
  simp only [Act.put, List.setIfInBounds_toArray, List.set_cons_zero, List.set_cons_succ]
  refine Zs.pure (i := 5) (oi := ⟨some 12, _, _, _, _, _⟩) (v := .bool true) rfl (by kernel_rfl) (by kernel_rfl) (by kernel_rfl) (by decide) (fun _ _ _ h => h) (Or.inl ⟨by rfl, ?hy5⟩) hS ?_
  case hy5 => (intro w hSw; (try dsimp only at hSw); go_simp; try with_reducible rfl)
  simp only [Act.put, List.setIfInBounds_toArray, List.set_cons_zero, List.set_cons_succ]
  refine Zs.pure (i := 6) (oi := ⟨some 13, _, _, _, _, _⟩) (v := .pointer (some ⟨q, 0, none⟩)) rfl (by kernel_rfl) (by kernel_rfl) (by kernel_rfl) (by decide) (fun _ _ _ h => h) (Or.inl ⟨by rfl, ?hy6⟩) hS ?_
  case hy6 => (intro w hSw; (try dsimp only at hSw); go_simp; try with_reducible rfl)
  simp only [Act.put, List.setIfInBounds_toArray, List.set_cons_zero, List.set_cons_succ]
  refine Zs.pure (i := 7) (oi := ⟨some 14, _, _, _, _, _⟩) (v := .pointer (some ⟨q, 0, none⟩)) rfl (by kernel_rfl) (by kernel_rfl) (by kernel_rfl) (by decide) (fun _ _ _ h => h) (Or.inl ⟨by rfl, ?hy7⟩) hS ?_
  case hy7 => (intro w hSw; (try dsimp only at hSw); go_simp; try with_reducible rfl)
  simp only [Act.put, List.setIfInBounds_toArray, List.set_cons_zero, List.set_cons_succ]
  refine Zs.pure (i := 8) (oi := ⟨some 15, _, _, _, _, _⟩) (v := .pointer (some ⟨q, 0, none⟩)) rfl (by kernel_rfl) (by kernel_rfl) (by kernel_rfl) (by decide) (fun _ _ _ h => h) (Or.inl ⟨by rfl, ?hy8⟩) hS ?_
  case hy8 => (intro w hSw; (try dsimp only at hSw); go_simp; try with_reducible rfl)
  simp only [Act.put, List.setIfInBounds_toArray, List.set_cons_zero, List.set_cons_succ]
  refine Zs.take (i := 9) (oi := ⟨some 16, _, _, _, _, _⟩) (v := .func (.func nb) #[] #[]) rfl (by kernel_rfl) (by kernel_rfl) (by kernel_rfl) (by decide) (by kernel_rfl) (by kernel_rfl) (fun _ _ _ h => h) (Or.inl ⟨by rfl, ?hy9⟩) hS ?_
  case hy9 => (intro w hSw; (try dsimp only at hSw); go_simp; try with_reducible rfl)
  simp only [Act.put, List.setIfInBounds_toArray, List.set_cons_zero, List.set_cons_succ]
  refine Zs.take (i := 10) (oi := ⟨some 17, _, _, _, _, _⟩) (v := .agg #[vc0 a, vc1 a]) rfl (by kernel_rfl) (by kernel_rfl) (by kernel_rfl) (by decide) (by kernel_rfl) (by kernel_rfl) (fun _ _ _ h => h) (Or.inl ⟨by rfl, ?hy10⟩) hS ?_
  case hy10 => (intro w hSw; (try dsimp only at hSw); go_simp; try with_reducible rfl)
  simp only [Act.put, List.setIfInBounds_toArray, List.set_cons_zero, List.set_cons_succ]
  refine Zs.take (i := 11) (oi := ⟨some 18, _, _, _, _, _⟩) (v := .agg #[vc0 b, vc1 b]) rfl (by kernel_rfl) (by kernel_rfl) (by kernel_rfl) (by decide) (by kernel_rfl) (by kernel_rfl) (fun _ _ _ h => h) (Or.inl ⟨by rfl, ?hy11⟩) hS ?_
  case hy11 => (intro w hSw; (try dsimp only at hSw); go_simp; try with_reducible rfl)
  simp only [Act.put, List.setIfInBounds_toArray, List.set_cons_zero, List.set_cons_succ]
  refine Zs.one (i := 12) (oi := ⟨some 19, _, _, _, _, _⟩) (by kernel_rfl) rfl (fun K hK => ?_)
  go_simp
  refine hC.out.mono ?_
  rintro e V1 ⟨rfl, hS1, hb1⟩
  have hb1H := hidP hb1
  clear hb1 hC
  go_wp2_with fail
  refine hK.out _ _ (fun _ => hS1) ?_
  clear hK K
  try simp only [Act.put, List.setIfInBounds_toArray, List.set_cons_zero, List.set_cons_succ]
  refine Zs.pure (i := 13) (oi := ⟨some 20, _, _, _, _, _⟩) (v := .bool r) rfl (by kernel_rfl) (by kernel_rfl) (by kernel_rfl) (by decide) (fun _ _ _ h => h) (Or.inl ⟨by rfl, ?hy13⟩) hS1 ?_
  case hy13 => (intro w hSw; (try dsimp only at hSw); go_simp; try with_reducible rfl)
  simp only [Act.put, List.setIfInBounds_toArray, List.set_cons_zero, List.set_cons_succ]
  refine Zs.one (i := 14) (oi := ⟨some 6, _, _, _, _, _⟩) (by kernel_rfl) rfl (fun K hK => ?_)
  go_simp
  refine hK.out _ _ (fun q => absurd q (by decide)) ?_
  clear hK K
  try simp only [Act.put, List.setIfInBounds_toArray, List.set_cons_zero, List.set_cons_succ]
  refine Zs.done (by kernel_rfl) ?_ _
  go_wp2_with fail
  go_ret
  exact ⟨rfl, hb1H.out⟩
end Go.Proofs.YteimalemecgomaaGreat.Qt
/- The row of trees from the end on. -/
namespace Go.Proofs.YteimalemecgomaaGreat.Qt
open Go.RowKit Go.Shelf Go.Lib
attribute [local go_sem] Oper.semAt_some
def encX (p : Nat × Rec) : Array Value := #[.int .i64 p.1, p.2.val]
/-- What is left of the row lies in memory. -/
def LB (g o : Nat) (s : List (Nat × Rec)) (W : World) : Prop := ∀ p ∈ s, (W.cell? ⟨g, o + p.1 * 4, none⟩ = some (vc0 p.2.v) ∧ W.cell? ⟨g, o + p.1 * 4 + 1, none⟩ = some (vc1 p.2.v)) ∧ W.cell? ⟨g, o + p.1 * 4 + 2, none⟩ = some (.int .i64 p.2.t) ∧ W.cell? ⟨g, o + p.1 * 4 + 3, none⟩ = some (ptrV p.2.p)
set_option maxRecDepth 100000 in
set_option maxHeartbeats 2000000 in
theorem back_row (l : List Rec) (b g o cap : Nat) (E : Nat → Prop) (W : World) (cv : W.cell? ⟨b, 0, none⟩ = some (slv g o l.length cap)) (eb : ¬ E b) (hl : l.length ≤ 1000000) :
    RowS Tryz.prog 112 #[.pointer (some ⟨b, 0, none⟩)] encX (fun _ => false) (LB g o) (bk l l.length) E W := by
  intro u J Jx E1 V m gr hJ hJx hL hsk hY h0
  have d1 := m.cell (a := ⟨b, 0, none⟩) eb cv
  have f1 : ¬ E1 b := gr.free (cell_lt cv) eb
  obtain ⟨n, hn⟩ : ∃ n, l.length = n := ⟨_, rfl⟩
  rw [hn] at d1 h0 hl
  have hN : Hid (l.length = n) := hn
  have hLH := hidP hL
  have hYH := hidP hY
  clear hn cv hL hsk hY
  unfold slv at d1
  refine (callsIn_wide (n := 5)).1 ?_
  refine callsIn_of_wp Tryz.func112 rfl trivial ?_ rfl
  simp only [Tryz.ntmps112, List.size_toArray, List.length_cons, List.length_nil, Nat.reduceAdd, Nat.reduceSub, Array.replicate_succ, Array.replicate_zero, List.push_toArray, List.append_toArray, List.nil_append, List.cons_append]
  gi_wp2
  gi_loopw [3] (fun i wr => ∃ (k : Nat) (z : Int) (E2 : Nat → Prop), k ≤ n ∧ z + 1 = k ∧ i = .int .i64 z ∧ J (bk l k) E2 wr ∧ Mv E1 V wr ∧ Gr E1 V E2) (fun i _ => (intOf i + 1).toNat)
  case atStart => exact ⟨n, _, E1, Nat.le_refl _, by omega, rfl, h0, Mv.refl _ _, Gr.refl _ _⟩
  case round =>
    obtain ⟨k, z, E2, k0, hz, rfl, hj, hm, hg⟩ := hrel
    have d3 := hm.cell (a := ⟨b, 0, none⟩) f1 d1
    cases k with
    | succ j =>
      obtain rfl : z = (j : Int) := by omega
      obtain ⟨x, hx⟩ : ∃ x, l[j]? = some x := ⟨_, List.getElem?_eq_getElem (by rw [hN.out]; omega)⟩
      rw [bk_succ hx] at hj
      obtain ⟨p0, p1, p2⟩ := hLH.out _ _ _ hj (j, x) (List.mem_cons_self ..)
      obtain ⟨fn, tmps, assign, body, hy, hR⟩ := hYH.out (j, x) _ E2 wr rfl hj
      dsimp only [encX, Rec.val] at hy p0 p1 p2
      have hjn : (j : Int) < (n : Int) := by omega
      clear hz hx
      gi_wp2
      refine (wide_round' hR).mono ?_
      rintro e W3 ⟨m3, (⟨rfl, E3, g3, hj3⟩ | ⟨rfl, E3, g3, hj3⟩)⟩
      · gi_wp2
        exact ⟨⟨j, _, E3, by omega, by omega, rfl, hj3, hm.trans hg m3, hg.trans hm.size g3⟩, by simp [intOf]⟩
      · gi_wp2
        refine bodyPost_ret (results_none rfl _ _ _) rfl ?_
        exact ⟨⟨_, rfl⟩, hm.trans hg m3, .inr ⟨E3, hg.trans hm.size g3, hj3⟩⟩
    | zero =>
      obtain rfl : z = -1 := by omega
      gi_wp2
      go_end0
      exact ⟨⟨_, rfl⟩, hm, .inl ⟨E2, hg, hj⟩⟩
set_option maxRecDepth 100000 in
set_option maxHeartbeats 1000000 in
theorem back_any (g o n c : Nat) (w : World) : Calls Tryz.prog 78 #[slv g o n c] w fun e w' => e = .returned (.func (.func 112) #[] #[.pointer (some ⟨w.heap.size, 0, none⟩)]) ∧ w' = w.alloc (.cells #[slv g o n c] 57) := by
  unfold slv
  go_enter Tryz.func78, Tryz.ntmps78
  go_wp2_with fail
  go_ret
  exact ⟨rfl, rfl⟩
end Go.Proofs.YteimalemecgomaaGreat.Qt
