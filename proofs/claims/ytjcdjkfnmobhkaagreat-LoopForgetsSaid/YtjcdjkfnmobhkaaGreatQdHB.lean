/- free where the front is empty: the front made anew. -/
import Derived.Test.YtjcdjkfnmobhkaaGreatQdFB
namespace Go.Proofs.YtjcdjkfnmobhkaaGreat.Qd
open Go.RowKit Go.Shelf Go.Lib
attribute [local go_sem] Oper.semAt_some
set_option maxRecDepth 100000 in
set_option maxHeartbeats 4000000 in
theorem free_new {nb : NB} {key : El → Int} (hB : Bf nb key) {q : Nat} {w : World} {B : Nat → Prop} {v : Value} {cnt psh : Int} (h : Qm nb w q B v [] [] cnt psh) {ts : List Rec} {T : List (Tr El)} {gt ot ct : Nat} (hls : Ls key w B ts T gt ot ct) (h0 : 0 < ts.length) (hN : ts.length ≤ 300000) (nq : q ≠ gt) (nv : nbk v ≠ some gt) :
    Calls Tryz.prog 90 #[qp q, slv gt ot ts.length ct] w fun e V => e = .returned (.tuple #[]) ∧ Fn nb key w q B v (leastL key ts.length T) gt cnt psh V := by
  obtain ⟨pv, cv, hv⟩ := h.sv.shape
  have hv' : v = .slice pv 0 cv := hv
  clear hv
  obtain ⟨nt, hnt⟩ : ∃ nt, ts.length = nt := ⟨_, rfl⟩
  have hE := hidP (unheld_empty q (some ⟨gt, ot, none⟩) pv nt ct cv w)
  have hL : Hid (∀ w1, Below w.heap.size w w1 → Calls Tryz.prog 108 #[qp q, slv gt ot nt ct] w1.drew fun e V1 => ∃ xs1 : List Rec, e = .returned (slv gt ot xs1.length ct) ∧ (V1.cell? ⟨q, 1, none⟩ = some (.slice pv 0 cv) ∧ ∃ pv2 nv2 cv2 V2, (Builtin.append_ #[123, 123] 123 #[.slice pv 0 cv, slv gt ot xs1.length ct]).run Tryz.prog V1 = .ok (.slice pv2 nv2 cv2) V2 ∧ V2.cell? ⟨q, 1, none⟩ = some (.slice pv 0 cv) ∧ (V2.frozen? ⟨q, 1, none⟩ = false ∧ ∃ V3, V2.setCell ⟨q, 1, none⟩ (.slice pv2 nv2 cv2) = V3 ∧ V3.cell? ⟨q, 1, none⟩ = some (.slice pv2 nv2 cv2) ∧ Calls Tryz.prog 109 #[.slice pv2 nv2 cv2, .func (.func 110) #[] #[]] V3 fun e V4 => e = .returned (.tuple #[]) ∧ Fn nb key w q B v (leastL key nt T) gt cnt psh V4))) := by
    intro w1 hb1
    have hb : Below w.heap.size w w1.drew := hb1.trans ((Below.refl _ _).drew)
    have hm := h.below hb
    have c := least_any hB nt (hls.below hb) (by omega) hm.c0 nq
    rw [hnt] at c
    refine c.mono ?_
    rintro e V1 ⟨xs1, B1, rfl, rs1, rf1, up1, gr1, lo1, cv1⟩
    have hgtw := hls.rs.rm.lt
    have mv1 : Mv (fun k => k = gt) w V1 := by
      refine (Mv.below hb).trans' (cv1.mv.mono fun k _ s => ?_)
      obtain ⟨j, s, _⟩ := s; exact s
    have hm1 := h.mv mv1 nq (fun k hk e => nv (e ▸ hk)) (fun k hk e => hls.ng k hk e)
    have hl1 : xs1.length ≤ nt := by
      rw [rf1.len]
      exact Nat.le_trans (leastL_len _ _ _) (by rw [← hls.rf.len]; omega)
    have hp1 : 0 < xs1.length := by
      rw [rf1.len]
      exact List.length_pos_iff.2 (leastL_ne _ _ _ (fun e => by have := hls.rf.len; rw [e] at this; simp at this; rw [this] at h0; simp at h0))
    have hc1 := hm1.c1
    rw [hv'] at hc1
    refine ⟨xs1, rfl, hc1, ?_⟩
    obtain ⟨v2, V2, hrun, sv2, mv2, at2⟩ := hm1.sv.appendN rs1.ra (fun e => by rw [e] at hp1; simp at hp1) (by simp) (by omega) ct
    rw [hv'] at hrun
    have gr1w : Gr B w B1 := fun b hb' => (gr1 b hb').imp id (fun s => Nat.le_trans hb.size s)
    have n1q : ∀ b, B1 b → b ≠ q := fun b hb' => by
      rcases gr1w b hb' with s | s
      · exact (h.nB b s).1
      · have := h.lt; omega
    have n1v : ∀ b, B1 b → nbk v ≠ some b := fun b hb' e => by
      rcases gr1w b hb' with s | s
      · exact (h.nB b s).2 e
      · have := h.sv.lt e; omega
    have sz1 := mv1.size
    have n2q : nbk v2 ≠ some q := fun e => by
      rcases at2 with s | ⟨k, s, hk⟩
      · exact h.nq (s ▸ e)
      · rw [e] at s; injection s with s; have := h.lt; omega
    have n2B : ∀ b, B1 b → nbk v2 ≠ some b := fun b hb' e => by
      rcases at2 with s | ⟨k, s, hk⟩
      · exact n1v b hb' (s ▸ e)
      · rw [e] at s; injection s with s; have := lo1 b hb'; omega
    rw [List.nil_append] at sv2
    obtain ⟨pv2, cv2, hv2⟩ := sv2.shape
    have m12 : Mv (fun k => k = gt ∨ nbk v = some k) w V2 := (mv1.mono (fun k _ e => .inl e)).trans' (mv2.mono (fun k _ e => .inr e))
    have e12 : ¬ (q = gt ∨ nbk v = some q) := fun e => e.elim nq h.nq
    have lq := h.lt
    have d0 := m12.cell (a := ⟨q, 0, none⟩) e12 h.c0
    have d1 := m12.cell (a := ⟨q, 1, none⟩) e12 h.c1
    have d2 := m12.cell (a := ⟨q, 2, none⟩) e12 h.c2
    have d3 := m12.cell (a := ⟨q, 3, none⟩) e12 h.c3
    have g1 := (m12.froz (a := ⟨q, 1, none⟩) e12 lq).trans h.f1
    have g2 := (m12.froz (a := ⟨q, 2, none⟩) e12 lq).trans h.f2
    have g3 := (m12.froz (a := ⟨q, 3, none⟩) e12 lq).trans h.f3
    obtain ⟨V3, hV3⟩ : ∃ V3, V2.setCell ⟨q, 1, none⟩ v2 = V3 := ⟨_, rfl⟩
    have cv3 : Cv (fun k j => k = q ∧ j = 1) V2 V3 := by rw [← hV3]; exact Cv.one _ _ _ _
    have mv3 : Mv (fun k => k = q) V2 V3 := cv3.mv.mono fun k _ s => by obtain ⟨j, s, _⟩ := s; exact s
    have a0 := cv3.cell (k := q) (j := 0) (by omega) d0
    have a1 : V3.cell? ⟨q, 1, none⟩ = some v2 := by rw [← hV3]; exact World.cell?_setCell_same _ _ _ d1
    have a2 := cv3.cell (k := q) (j := 2) (by omega) d2
    have a3 := cv3.cell (k := q) (j := 3) (by omega) d3
    have lq2 : q < V2.heap.size := cell_lt d0
    have b1 := (cv3.fr q 1 lq2).trans g1
    have b2 := (cv3.fr q 2 lq2).trans g2
    have b3 := (cv3.fr q 3 lq2).trans g3
    have rf3 : RF V3 B1 xs1 (leastL key nt T) := RF.mv mv3 (fun k hk e => n1q k hk e) _ _ (RF.mv mv2 (fun k hk e => n1v k hk e) _ _ rf1)
    have sv3 := sv2.mv mv3 (fun k hk e => n2q (e ▸ hk))
    obtain ⟨g', o', c', hv2', rs3⟩ : ∃ g' o' c', v2 = slv g' o' xs1.length c' ∧ RS V3 g' o' c' xs1 := by
      rcases sv3 with ⟨_, e⟩ | s
      · rw [e] at hp1; simp at hp1
      · exact s
    have hso := sort_any rs3 hp1 (by omega)
    rw [hv2] at hrun a1 hV3
    have hc12 := m12.cell (a := ⟨q, 1, none⟩) e12 h.c1
    rw [hv'] at hc12
    refine ⟨pv2, xs1.length, cv2, V2, hrun, hc12, g1, V3, hV3, a1, ?_⟩
    rw [← hv2, hv2']
    refine hso.mono ?_
    rintro e V4 ⟨rfl, ys, yp, ysr, rs4, cv4⟩
    have mv4 : Mv (fun k => k = g') V3 V4 := cv4.mv.mono fun k _ s => by obtain ⟨j, s, _⟩ := s; exact s
    have ng' : ¬ q = g' := fun e => n2q (by rw [hv2']; exact congrArg some e.symm)
    have nBg : ∀ b, B1 b → ¬ b = g' := fun b hb' e => n2B b hb' (by rw [hv2']; exact congrArg some e.symm)
    obtain ⟨F', fp, rf4⟩ := RF.perm yp (RF.mv mv4 nBg _ _ rf3)
    have lq3 : q < V3.heap.size := cell_lt a0
    have hyl : ys.length = xs1.length := yp.length_eq
    refine ⟨rfl, ⟨F', fp, ?_, slv g' o' ys.length c', ys, B1, ⟨mv4.cell (a := ⟨q, 0, none⟩) ng' a0, ?_, mv4.cell (a := ⟨q, 2, none⟩) ng' a2, mv4.cell (a := ⟨q, 3, none⟩) ng' a3, (mv4.froz (a := ⟨q, 1, none⟩) ng' lq3).trans b1, (mv4.froz (a := ⟨q, 2, none⟩) ng' lq3).trans b2, (mv4.froz (a := ⟨q, 3, none⟩) ng' lq3).trans b3, .inr ⟨g', o', c', rfl, rs4⟩, rf4, fun e => ng' (by injection e with e; exact e.symm), fun k hk => ⟨n1q k hk, fun e => nBg k hk (by injection e with e; exact e.symm)⟩, fun k hk => ?_, by omega, ((h.xt.mv m12 e12 lq).cv cv3 (fun j hj s => by omega) lq2).mv mv4 ng' lq3⟩, ?_, gr1w, ?_⟩⟩
    · have t := rf4.turns
      have p1 : (ys.map (·.t)).Pairwise (fun a b => a ≤ b) := by rw [List.pairwise_map]; exact ysr
      rw [← t, List.pairwise_map] at p1
      exact p1
    · rw [hyl, ← hv2', hv2]
      exact mv4.cell (a := ⟨q, 1, none⟩) ng' a1
    · have := lo1 k hk
      have := mv2.size
      have := mv3.size
      have := mv4.size
      omega
    · refine ((m12.mono (fun k _ e => by rcases e with e | e; exact .inr (.inr e); exact .inr (.inl e))).trans' (mv3.mono (fun k _ e => .inl e))).trans (E' := fun k => k = g') (fun k e => ?_) mv4
      have hg : nbk v2 = some k := by rw [hv2', e]; rfl
      rcases at2 with s | ⟨k', s, hk'⟩
      · exact .inl (.inr (.inl (s ▸ hg)))
      · rw [hg] at s; injection s with s; exact .inr (by omega)
    · have hg : nbk (slv g' o' ys.length c') = nbk v2 := by rw [hv2']; rfl
      rw [hg]
      rcases at2 with s | ⟨k', s, hk'⟩
      · exact .inl s
      · exact .inr ⟨k', s, by omega⟩
  have hc1 : w.cell? ⟨q, 1, none⟩ = some (.slice pv 0 cv) := by rw [← hv']; exact h.c1
  have hbq : Hid (∀ w1, Below w.heap.size w w1 → w1.drew.cell? ⟨q, 1, none⟩ = some (.slice pv 0 cv)) := fun w1 hb => bcell hb (cell_lt hc1) hc1
  rw [hnt]
  have hne : ¬ nt = 0 := by omega
  have hneI : ((nt : Int) == 0) = false := by simp; omega
  clear h hls hB nv hv' hN
  unfold qp slv at *
  go_enter Tryz.func90, Tryz.ntmps90
  go_wp2_with fail
  refine hE.out.mono ?_
  rintro e w1 ⟨rfl, hb⟩
  have hL := hidP (hL.out w1 hb)
  have hS := hbq.out w1 hb
  clear hb hE hbq hc1
  go_wp2_with fail
  refine Zs.region (S := fun W => W.cell? ⟨q, 1, none⟩ = some (.slice pv 0 cv)) 11 (by kernel_rfl) ?_
  refine Zs.pure (i := 0) (oi := ⟨some 14, _, _, _, _, _⟩) (v := ?v0) rfl (by kernel_rfl) (by kernel_rfl) (by kernel_rfl) (by decide) (fun _ _ _ h => h) (Or.inl ⟨by rfl, ?hy0⟩) hS ?_
  case hy0 => (intro w hSw; (try dsimp only at hSw); go_simp; try with_reducible rfl)
  simp only [Act.put, List.setIfInBounds_toArray, List.set_cons_zero, List.set_cons_succ]
  refine Zs.pure (i := 1) (oi := ⟨some 15, _, _, _, _, _⟩) (v := ?v1) rfl (by kernel_rfl) (by kernel_rfl) (by kernel_rfl) (by decide) (fun _ _ _ h => h) (Or.inl ⟨by rfl, ?hy1⟩) hS ?_
  case hy1 => (intro w hSw; (try dsimp only at hSw); go_simp; try with_reducible rfl)
  simp only [Act.put, List.setIfInBounds_toArray, List.set_cons_zero, List.set_cons_succ]
  refine Zs.pure (i := 2) (oi := ⟨some 16, _, _, _, _, _⟩) (v := ?v2) rfl (by kernel_rfl) (by kernel_rfl) (by kernel_rfl) (by decide) (fun _ _ _ h => h) (Or.inl ⟨by rfl, ?hy2⟩) hS ?_
  case hy2 => (intro w hSw; (try dsimp only at hSw); go_simp; try with_reducible rfl)
  simp only [Act.put, List.setIfInBounds_toArray, List.set_cons_zero, List.set_cons_succ]
  refine Zs.pure (i := 3) (oi := ⟨some 17, _, _, _, _, _⟩) (v := ?v3) rfl (by kernel_rfl) (by kernel_rfl) (by kernel_rfl) (by decide) (fun _ _ _ h => h) (Or.inl ⟨by rfl, ?hy3⟩) hS ?_
  case hy3 => (intro w hSw; (try dsimp only at hSw); go_simp; try with_reducible rfl)
  simp only [Act.put, List.setIfInBounds_toArray, List.set_cons_zero, List.set_cons_succ]
  refine Zs.take (i := 4) (oi := ⟨some 18, _, _, _, _, _⟩) (v := .slice pv 0 cv) rfl (by kernel_rfl) (by kernel_rfl) (by kernel_rfl) (by decide) (by kernel_rfl) (by kernel_rfl) (fun _ _ _ h => h) (Or.inl ⟨by rfl, ?hy4⟩) hS ?_
  case hy4 => (intro w hSw; (try dsimp only at hSw); go_simp; try with_reducible rfl)
  simp only [Act.put, List.setIfInBounds_toArray, List.set_cons_zero, List.set_cons_succ]
  refine Zs.pure (i := 5) (oi := ⟨some 19, _, _, _, _, _⟩) (v := ?v5) rfl (by kernel_rfl) (by kernel_rfl) (by kernel_rfl) (by decide) (fun _ _ _ h => h) (Or.inl ⟨by rfl, ?hy5⟩) hS ?_
  case hy5 => (intro w hSw; (try dsimp only at hSw); go_simp; try with_reducible rfl)
  simp only [Act.put, List.setIfInBounds_toArray, List.set_cons_zero, List.set_cons_succ]
  refine Zs.pure (i := 6) (oi := ⟨some 20, _, _, _, _, _⟩) (v := ?v6) rfl (by kernel_rfl) (by kernel_rfl) (by kernel_rfl) (by decide) (fun _ _ _ h => h) (Or.inl ⟨by rfl, ?hy6⟩) hS ?_
  case hy6 => (intro w hSw; (try dsimp only at hSw); go_simp; try with_reducible rfl)
  simp only [Act.put, List.setIfInBounds_toArray, List.set_cons_zero, List.set_cons_succ]
  refine Zs.one (i := 7) (oi := ⟨some 21, _, _, _, _, _⟩) (by kernel_rfl) rfl (fun K hK => ?_)
  go_simp
  refine hL.out.mono ?_
  rintro e V1 ⟨xs1, rfl, h1⟩
  obtain ⟨hS1, pv2, nv2, cv2, V2, hrun, hS2, h2⟩ := h1
  have h2H := hidP h2
  clear h2 hL
  go_wp2_with fail
  refine hK.out _ _ (fun _ => hS1) ?_
  clear hK K
  try simp only [Act.put, List.setIfInBounds_toArray, List.set_cons_zero, List.set_cons_succ]
  refine Zs.one (i := 8) (oi := ⟨some 22, _, _, _, _, _⟩) (by kernel_rfl) rfl (fun K hK => ?_)
  refine step_append_run rfl (.tmp 18) (.tmp 21) 123 rfl _ _ _ _ rfl rfl hrun ?_
  refine hK.out _ _ (fun _ => hS2) ?_
  clear hK K
  try simp only [Act.put, List.setIfInBounds_toArray, List.set_cons_zero, List.set_cons_succ]
  refine Zs.pure (i := 9) (oi := ⟨some 23, _, _, _, _, _⟩) (v := ?v9) rfl (by kernel_rfl) (by kernel_rfl) (by kernel_rfl) (by decide) (fun _ _ _ h => h) (Or.inl ⟨by rfl, ?hy9⟩) hS2 ?_
  case hy9 => (intro w hSw; (try dsimp only at hSw); go_simp; try with_reducible rfl)
  simp only [Act.put, List.setIfInBounds_toArray, List.set_cons_zero, List.set_cons_succ]
  refine Zs.pure (i := 10) (oi := ⟨some 24, _, _, _, _, _⟩) (v := ?v10) rfl (by kernel_rfl) (by kernel_rfl) (by kernel_rfl) (by decide) (fun _ _ _ h => h) (Or.inl ⟨by rfl, ?hy10⟩) hS2 ?_
  case hy10 => (intro w hSw; (try dsimp only at hSw); go_simp; try with_reducible rfl)
  simp only [Act.put, List.setIfInBounds_toArray, List.set_cons_zero, List.set_cons_succ]
  obtain ⟨hf2, V3, hV3, c3, hsort⟩ := h2H.out
  have hsH := hidP hsort
  clear hsort h2H hrun
  refine Zs.one (i := 11) (oi := ⟨none, _, _, _, _, _⟩) (by kernel_rfl) rfl (fun K hK => ?_)
  go_simp
  refine hK.out _ _ (fun q => absurd q (by decide)) ?_
  clear hK K
  refine Zs.done (by kernel_rfl) ?_ _
  go_wp2_with fail
  refine hsH.out.mono ?_
  rintro e V4 ⟨rfl, hfin⟩
  have hfH := hidP hfin
  clear hfin hsH
  go_wp2_with fail
  go_end0
  exact ⟨rfl, hfH.out⟩
end Go.Proofs.YtjcdjkfnmobhkaaGreat.Qd
