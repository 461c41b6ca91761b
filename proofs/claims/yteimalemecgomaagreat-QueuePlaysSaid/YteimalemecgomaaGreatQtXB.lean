/- twin: a queue with the same elements. -/
import Derived.Test.YteimalemecgomaaGreatQtVB
namespace Go.Proofs.YteimalemecgomaaGreat.Qt
open Go.RowKit Go.Shelf Go.Lib
attribute [local go_sem] Oper.semAt_some
theorem SV.own {w : World} {v : Value} {base : Nat} {e : TypeId} {xs : List Rec} (h : w.ownsRow base e 4 v xs.length (flat xs)) : SV w v xs ∧ ∀ k, nbk v = some k → base ≤ k := by
  rcases h.2 with ⟨rfl, h1⟩ | ⟨g, cap, cur, rfl, hb, hg, h1, h2, h3, h4⟩
  · exact ⟨.inl ⟨rfl, List.eq_nil_of_length_eq_zero h1⟩, fun k hk => by cases hk⟩
  · refine ⟨.inr ⟨g, 0, cap, rfl, h1, ⟨(Array.getElem?_eq_some_iff.1 hg).1, h2, fun j hj => ?_, fun j hj => ?_⟩, fun j x hx => ?_⟩, fun k hk => by injection hk with hk; rw [← hk]; exact hb⟩
    · unfold World.cell?
      rw [hg]
      have : j < cur.size := by rw [h3]; omega
      simp [this]
    · unfold World.frozen?
      rw [hg]
      simp
    · have := h.cells (g := g) rfl j x hx
      rw [Addr.add_lit] at this
      exact this
theorem clone_any {w : World} {v : Value} {xs : List Rec} (h : SV w v xs) (hl : xs.length ≤ 400000) : Calls Tryz.prog 43 #[v] w fun e V => ∃ v', e = .returned v' ∧ SV V v' xs ∧ (∀ k, nbk v' = some k → w.heap.size ≤ k) ∧ Below w.heap.size w V := by
  rcases h with ⟨rfl, rfl⟩ | ⟨g, o, c, rfl, h⟩
  · have hc := AnyE.slices_Clone_nil Tryz.cloneTt 0 0 w
    change Calls Tryz.prog 43 _ _ _ at hc
    refine hc.mono ?_
    rintro e V ⟨rfl, rfl⟩
    exact ⟨_, rfl, .inl ⟨rfl, rfl⟩, (fun k hk => by cases hk), Below.refl _ _⟩
  · obtain ⟨i0, hi, hz0, hz1, hz2⟩ := infoT
    have hc := AnyE.slices_Clone Tryz.cloneTt i0 _ 4 32 hi hz0 hz1 hz2 rfl (by decide) Tryz.sizeOf63 g o xs.length c (flat xs) w (flat_len xs) (by unfold maxLen; omega) (by omega) (fun j u hj => h.ra j u hj) (flat_one xs)
    change Calls Tryz.prog 43 _ _ _ at hc
    refine hc.mono ?_
    rintro e V ⟨v', rfl, ho, _, hb⟩
    obtain ⟨h1, h2⟩ := SV.own ho
    exact ⟨v', rfl, h1, h2, hb⟩
set_option maxRecDepth 100000 in
set_option maxHeartbeats 4000000 in
theorem twin_any {nb : Nat} {key : El → Int} {w : World} {q : Nat} {E B : Nat → Prop} {L : List El} {n : Nat} (h : Qu nb key w q E B L n) :
    Calls Tryz.prog 29 #[qp q] w fun e V => ∃ q' E', e = .returned (qp q') ∧ Qu nb key V q' E' B L n ∧ (∀ k, E' k → w.heap.size ≤ k) ∧ Below w.heap.size w V := by
  obtain ⟨v, xs, F, L', a1, a2, a3, a4, a5, a6⟩ := h
  obtain ⟨pv, cv, hv⟩ := a1.sv.shape
  obtain ⟨nv, hnv⟩ : ∃ nv, xs.length = nv := ⟨_, rfl⟩
  rw [hnv] at hv
  obtain ⟨cn, hcn⟩ : ∃ cn, L.length = cn := ⟨_, rfl⟩
  have hbd : Below w.heap.size w w.drew := (Below.refl _ _).drew
  have ad := a1.below hbd
  have hS : w.drew.cell? ⟨q, 0, none⟩ = some (.func (.func nb) #[] #[]) ∧ w.drew.cell? ⟨q, 1, none⟩ = some (.slice pv nv cv) ∧ w.drew.cell? ⟨q, 2, none⟩ = some (.int .i64 cn) ∧ w.drew.cell? ⟨q, 3, none⟩ = some (.int .i64 n) := ⟨ad.c0, by rw [← hv]; exact ad.c1, by rw [← hcn]; exact ad.c2, ad.c3⟩
  have hC : Hid (Calls Tryz.prog 43 #[.slice pv nv cv] w.drew fun e V1 => ∃ pv2 nv2 cv2, e = .returned (.slice pv2 nv2 cv2) ∧ (V1.cell? ⟨q, 0, none⟩ = some (.func (.func nb) #[] #[]) ∧ V1.cell? ⟨q, 1, none⟩ = some (.slice pv nv cv) ∧ V1.cell? ⟨q, 2, none⟩ = some (.int .i64 cn) ∧ V1.cell? ⟨q, 3, none⟩ = some (.int .i64 n)) ∧ ∃ V2, V1.alloc (.cells #[.func (.func nb) #[] #[], .slice pv2 nv2 cv2, .int .i64 cn, .int .i64 n] 59) = V2 ∧ (V2.cell? ⟨q, 0, none⟩ = some (.func (.func nb) #[] #[]) ∧ V2.cell? ⟨q, 1, none⟩ = some (.slice pv nv cv) ∧ V2.cell? ⟨q, 2, none⟩ = some (.int .i64 cn) ∧ V2.cell? ⟨q, 3, none⟩ = some (.int .i64 n)) ∧ ∃ E', Qu nb key V2 V1.heap.size E' B L n ∧ (∀ k, E' k → w.heap.size ≤ k) ∧ Below w.heap.size w V2) := by
    have c := clone_any ad.sv (by have := ad.len; omega)
    rw [hv] at c
    refine c.mono ?_
    rintro e V1 ⟨v', rfl, sv', hf, hb⟩
    obtain ⟨pv2, cv2, hv2⟩ := sv'.shape
    have b1 := ad.below hb
    refine ⟨pv2, xs.length, cv2, by rw [hv2], ⟨b1.c0, by rw [← hv]; exact b1.c1, by rw [← hcn]; exact b1.c2, b1.c3⟩, ?_⟩
    obtain ⟨V2, hV2⟩ : ∃ V2, V1.alloc (.cells #[.func (.func nb) #[] #[], .slice pv2 xs.length cv2, .int .i64 cn, .int .i64 n] 59) = V2 := ⟨_, rfl⟩
    have hb2 : Below V1.heap.size V1 V2 := by rw [← hV2]; exact (Below.refl _ _).alloc (Nat.le_refl _) _
    have b2 := b1.below hb2
    have hbw : Below w.heap.size w V2 := (hbd.trans (hb.mono (Nat.le_refl _))).trans (hb2.mono hb.size)
    have sz : w.heap.size ≤ V1.heap.size := hb.size
    have c : ∀ j u, #[Value.func (.func nb) #[] #[], .slice pv2 xs.length cv2, .int .i64 cn, .int .i64 n][j]? = some u → V2.cell? ⟨V1.heap.size, j, none⟩ = some u := fun j u hj => by rw [← hV2]; exact cell_at rfl hj
    have f : ∀ j, V2.frozen? ⟨V1.heap.size, j, none⟩ = false := fun j => by rw [← hV2]; exact froz_new rfl
    have lo : ∀ k, B k → k < w.heap.size := a1.lo
    refine ⟨V2, hV2, ⟨b2.c0, by rw [← hv]; exact b2.c1, by rw [← hcn]; exact b2.c2, b2.c3⟩, fun k => k = V1.heap.size ∨ nbk v' = some k, ⟨v', xs, F, L', ⟨c 0 _ rfl, by rw [hv2]; exact c 1 _ rfl, by rw [hcn]; exact c 2 _ rfl, c 3 _ rfl, f 1, f 2, f 3, sv'.mv (F := fun _ => False) (Mv.below hb2) (fun _ _ h => h), b2.rf, fun e => by have := sv'.lt e; omega, fun k hk => ⟨by have := lo k hk; omega, fun e => by have := hf k e; have := lo k hk; have : w.drew.heap.size = w.heap.size := rfl; omega⟩, b2.lo, a1.len⟩, a2, a3, a4, a5, fun _ => Iff.rfl⟩, fun k hk => ?_, hbw⟩
    rcases hk with e | e
    · omega
    · exact hf k e
  clear a1 a2 a3 a4 a5 a6 hv hnv hcn hbd ad
  unfold qp at *
  go_enter Tryz.func29, Tryz.ntmps29
  go_wp2_with fail
  refine Zs.region (S := fun W => W.cell? ⟨q, 0, none⟩ = some (.func (.func nb) #[] #[]) ∧ W.cell? ⟨q, 1, none⟩ = some (.slice pv nv cv) ∧ W.cell? ⟨q, 2, none⟩ = some (.int .i64 cn) ∧ W.cell? ⟨q, 3, none⟩ = some (.int .i64 n)) 19 (by kernel_rfl) ?_
  refine Zs.pure (i := 0) (oi := ⟨some 3, _, _, _, _, _⟩) (v := ?v0) rfl (by kernel_rfl) (by kernel_rfl) (by kernel_rfl) (by decide) (fun _ _ _ h => h) (Or.inl ⟨by rfl, ?hy0⟩) hS ?_
  case hy0 => (intro w hSw; (try dsimp only at hSw); go_simp; try with_reducible rfl)
  simp only [Act.put, List.setIfInBounds_toArray, List.set_cons_zero, List.set_cons_succ]
  refine Zs.pure (i := 1) (oi := ⟨some 4, _, _, _, _, _⟩) (v := ?v1) rfl (by kernel_rfl) (by kernel_rfl) (by kernel_rfl) (by decide) (fun _ _ _ h => h) (Or.inl ⟨by rfl, ?hy1⟩) hS ?_
  case hy1 => (intro w hSw; (try dsimp only at hSw); go_simp; try with_reducible rfl)
  simp only [Act.put, List.setIfInBounds_toArray, List.set_cons_zero, List.set_cons_succ]
  refine Zs.pure (i := 2) (oi := ⟨some 5, _, _, _, _, _⟩) (v := ?v2) rfl (by kernel_rfl) (by kernel_rfl) (by kernel_rfl) (by decide) (fun _ _ _ h => h) (Or.inl ⟨by rfl, ?hy2⟩) hS ?_
  case hy2 => (intro w hSw; (try dsimp only at hSw); go_simp; try with_reducible rfl)
  simp only [Act.put, List.setIfInBounds_toArray, List.set_cons_zero, List.set_cons_succ]
  refine Zs.take (i := 3) (oi := ⟨some 6, _, _, _, _, _⟩) (v := .func (.func nb) #[] #[]) rfl (by kernel_rfl) (by kernel_rfl) (by kernel_rfl) (by decide) (by kernel_rfl) (by kernel_rfl) (fun _ _ _ h => h) (Or.inl ⟨by rfl, ?hy3⟩) hS ?_
  case hy3 => (intro w hSw; (try dsimp only at hSw); go_simp; try with_reducible rfl)
  simp only [Act.put, List.setIfInBounds_toArray, List.set_cons_zero, List.set_cons_succ]
  refine Zs.pure (i := 4) (oi := ⟨some 7, _, _, _, _, _⟩) (v := ?v4) rfl (by kernel_rfl) (by kernel_rfl) (by kernel_rfl) (by decide) (fun _ _ _ h => h) (Or.inl ⟨by rfl, ?hy4⟩) hS ?_
  case hy4 => (intro w hSw; (try dsimp only at hSw); go_simp; try with_reducible rfl)
  simp only [Act.put, List.setIfInBounds_toArray, List.set_cons_zero, List.set_cons_succ]
  refine Zs.pure (i := 5) (oi := ⟨some 8, _, _, _, _, _⟩) (v := ?v5) rfl (by kernel_rfl) (by kernel_rfl) (by kernel_rfl) (by decide) (fun _ _ _ h => h) (Or.inl ⟨by rfl, ?hy5⟩) hS ?_
  case hy5 => (intro w hSw; (try dsimp only at hSw); go_simp; try with_reducible rfl)
  simp only [Act.put, List.setIfInBounds_toArray, List.set_cons_zero, List.set_cons_succ]
  refine Zs.pure (i := 6) (oi := ⟨some 9, _, _, _, _, _⟩) (v := ?v6) rfl (by kernel_rfl) (by kernel_rfl) (by kernel_rfl) (by decide) (fun _ _ _ h => h) (Or.inl ⟨by rfl, ?hy6⟩) hS ?_
  case hy6 => (intro w hSw; (try dsimp only at hSw); go_simp; try with_reducible rfl)
  simp only [Act.put, List.setIfInBounds_toArray, List.set_cons_zero, List.set_cons_succ]
  refine Zs.take (i := 7) (oi := ⟨some 10, _, _, _, _, _⟩) (v := .slice pv nv cv) rfl (by kernel_rfl) (by kernel_rfl) (by kernel_rfl) (by decide) (by kernel_rfl) (by kernel_rfl) (fun _ _ _ h => h) (Or.inl ⟨by rfl, ?hy7⟩) hS ?_
  case hy7 => (intro w hSw; (try dsimp only at hSw); go_simp; try with_reducible rfl)
  simp only [Act.put, List.setIfInBounds_toArray, List.set_cons_zero, List.set_cons_succ]
  refine Zs.pure (i := 9) (oi := ⟨some 12, _, _, _, _, _⟩) (v := ?v9) rfl (by kernel_rfl) (by kernel_rfl) (by kernel_rfl) (by decide) (fun _ _ _ h => h) (Or.inl ⟨by rfl, ?hy9⟩) hS ?_
  case hy9 => (intro w hSw; (try dsimp only at hSw); go_simp; try with_reducible rfl)
  simp only [Act.put, List.setIfInBounds_toArray, List.set_cons_zero, List.set_cons_succ]
  refine Zs.pure (i := 10) (oi := ⟨some 13, _, _, _, _, _⟩) (v := ?v10) rfl (by kernel_rfl) (by kernel_rfl) (by kernel_rfl) (by decide) (fun _ _ _ h => h) (Or.inl ⟨by rfl, ?hy10⟩) hS ?_
  case hy10 => (intro w hSw; (try dsimp only at hSw); go_simp; try with_reducible rfl)
  simp only [Act.put, List.setIfInBounds_toArray, List.set_cons_zero, List.set_cons_succ]
  refine Zs.pure (i := 11) (oi := ⟨some 14, _, _, _, _, _⟩) (v := ?v11) rfl (by kernel_rfl) (by kernel_rfl) (by kernel_rfl) (by decide) (fun _ _ _ h => h) (Or.inl ⟨by rfl, ?hy11⟩) hS ?_
  case hy11 => (intro w hSw; (try dsimp only at hSw); go_simp; try with_reducible rfl)
  simp only [Act.put, List.setIfInBounds_toArray, List.set_cons_zero, List.set_cons_succ]
  refine Zs.take (i := 12) (oi := ⟨some 15, _, _, _, _, _⟩) (v := .int .i64 cn) rfl (by kernel_rfl) (by kernel_rfl) (by kernel_rfl) (by decide) (by kernel_rfl) (by kernel_rfl) (fun _ _ _ h => h) (Or.inl ⟨by rfl, ?hy12⟩) hS ?_
  case hy12 => (intro w hSw; (try dsimp only at hSw); go_simp; try with_reducible rfl)
  simp only [Act.put, List.setIfInBounds_toArray, List.set_cons_zero, List.set_cons_succ]
  refine Zs.pure (i := 13) (oi := ⟨some 16, _, _, _, _, _⟩) (v := ?v13) rfl (by kernel_rfl) (by kernel_rfl) (by kernel_rfl) (by decide) (fun _ _ _ h => h) (Or.inl ⟨by rfl, ?hy13⟩) hS ?_
  case hy13 => (intro w hSw; (try dsimp only at hSw); go_simp; try with_reducible rfl)
  simp only [Act.put, List.setIfInBounds_toArray, List.set_cons_zero, List.set_cons_succ]
  refine Zs.pure (i := 14) (oi := ⟨some 17, _, _, _, _, _⟩) (v := ?v14) rfl (by kernel_rfl) (by kernel_rfl) (by kernel_rfl) (by decide) (fun _ _ _ h => h) (Or.inl ⟨by rfl, ?hy14⟩) hS ?_
  case hy14 => (intro w hSw; (try dsimp only at hSw); go_simp; try with_reducible rfl)
  simp only [Act.put, List.setIfInBounds_toArray, List.set_cons_zero, List.set_cons_succ]
  refine Zs.pure (i := 15) (oi := ⟨some 18, _, _, _, _, _⟩) (v := ?v15) rfl (by kernel_rfl) (by kernel_rfl) (by kernel_rfl) (by decide) (fun _ _ _ h => h) (Or.inl ⟨by rfl, ?hy15⟩) hS ?_
  case hy15 => (intro w hSw; (try dsimp only at hSw); go_simp; try with_reducible rfl)
  simp only [Act.put, List.setIfInBounds_toArray, List.set_cons_zero, List.set_cons_succ]
  refine Zs.take (i := 16) (oi := ⟨some 19, _, _, _, _, _⟩) (v := .int .i64 n) rfl (by kernel_rfl) (by kernel_rfl) (by kernel_rfl) (by decide) (by kernel_rfl) (by kernel_rfl) (fun _ _ _ h => h) (Or.inl ⟨by rfl, ?hy16⟩) hS ?_
  case hy16 => (intro w hSw; (try dsimp only at hSw); go_simp; try with_reducible rfl)
  simp only [Act.put, List.setIfInBounds_toArray, List.set_cons_zero, List.set_cons_succ]
  refine Zs.one (i := 8) (oi := ⟨some 11, _, _, _, _, _⟩) (by kernel_rfl) rfl (fun K hK => ?_)
  go_simp
  refine hC.out.mono ?_
  rintro e V1 ⟨pv2, nv2, cv2, rfl, hS1, V2, hV2, fin⟩
  have finH := hidP fin
  clear fin hC
  go_wp2_with fail
  refine hK.out _ _ (fun _ => hS1) ?_
  clear hK K
  try simp only [Act.put, List.setIfInBounds_toArray, List.set_cons_zero, List.set_cons_succ]
  refine Zs.pure (i := 17) (oi := ⟨some 20, _, _, _, _, _⟩) (v := .agg #[.func (.func nb) #[] #[], .slice pv2 nv2 cv2, .int .i64 cn, .int .i64 n]) rfl (by kernel_rfl) (by kernel_rfl) (by kernel_rfl) (by decide) (fun _ _ _ h => h) (Or.inl ⟨by rfl, ?hy17⟩) hS1 ?_
  case hy17 => (intro w hSw; (try dsimp only at hSw); go_simp; try with_reducible rfl)
  simp only [Act.put, List.setIfInBounds_toArray, List.set_cons_zero, List.set_cons_succ]
  refine Zs.one (i := 18) (oi := ⟨some 21, _, _, _, _, _⟩) (by kernel_rfl) rfl (fun K hK => ?_)
  go_simp
  refine hK.out _ _ (fun _ => finH.out.1) ?_
  clear hK K
  try simp only [Act.put, List.setIfInBounds_toArray, List.set_cons_zero, List.set_cons_succ]
  refine Zs.one (i := 19) (oi := ⟨some 2, _, _, _, _, _⟩) (by kernel_rfl) rfl (fun K hK => ?_)
  go_simp
  refine hK.out _ _ (fun q => absurd q (by decide)) ?_
  clear hK K
  try simp only [Act.put, List.setIfInBounds_toArray, List.set_cons_zero, List.set_cons_succ]
  refine Zs.done (by kernel_rfl) ?_ _
  go_wp2_with fail
  go_ret
  exact ⟨V1.heap.size, finH.out.2.choose, rfl, finH.out.2.choose_spec⟩
end Go.Proofs.YteimalemecgomaaGreat.Qt
