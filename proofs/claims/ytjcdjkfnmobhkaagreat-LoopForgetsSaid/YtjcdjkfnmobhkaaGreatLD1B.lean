/- The timers that are due, as a row. -/
import Derived.Test.YtjcdjkfnmobhkaaGreatBk
namespace Go.Proofs.YtjcdjkfnmobhkaaGreat
open Go.RowKit Go.Shelf Go.Lib
attribute [local go_sem] Oper.semAt_some
set_option maxRecDepth 100000 in
set_option maxHeartbeats 4000000 in
theorem due_row {now : Int} {lb n bl bn : Nat} {El : Nat → Prop} {L : List Wt} {T : List Du} (E : Nat → Prop) (W : World) (h : Lo W lb El L n T) (hbl : W.cell? ⟨bl, 0, none⟩ = some (lp lb)) (hbn : W.cell? ⟨bn, 0, none⟩ = some (.int .i64 now)) (n0 : ∀ k, El k → ¬ E k) (n1 : ¬ E bl) (n2 : ¬ E bn) :
    Row Tryz.prog 53 #[.pointer (some ⟨bl, 0, none⟩), .pointer (some ⟨bn, 0, none⟩)] Qd.encE (T.filter fun d => decide (d.t ≤ now)) E W := by
  intro u J Jx E1 V m gr hJ hJx hY h0
  have hV := h.mv m n0
  have cbl := m.cell (a := ⟨bl, 0, none⟩) n1 hbl
  have cbn := m.cell (a := ⟨bn, 0, none⟩) n2 hbn
  have lJ := hJ.low _ _ _ h0
  obtain ⟨N, hN⟩ : ∃ N, V.heap.size = N := ⟨_, rfl⟩
  obtain ⟨W1, hW1⟩ : ∃ W1, V.alloc (.cells #[.func (.yield u) #[] #[]] 65) = W1 := ⟨_, rfl⟩
  have b1 : Below V.heap.size V W1 := by rw [← hW1]; exact (Below.refl _ _).alloc (Nat.le_refl _) _
  have s1 : W1.heap.size = N + 1 := by rw [← hW1]; simp [hN]
  have y1 : W1.cell? ⟨N, 0, none⟩ = some (.func (.yield u) #[] #[]) := by rw [← hW1]; exact cell_at hN rfl
  have hT := hV.ts
  have hTl := hV.tlen
  have lEl := hV.lt.1
  have hNw : Hid (Calls Tryz.prog 54 #[.func (.func 55) #[] #[]] W1 fun e W2 => e = .returned (.pointer (some ⟨N + 1, 0, none⟩)) ∧ W2.cell? ⟨bl, 0, none⟩ = some (lp lb) ∧ ∃ mv W3 r left cnt, W2.cell? ⟨lb, 5, none⟩ = some mv ∧ (Instr.range 71 mv).run Tryz.prog W2 = .ok (.pointer (some ⟨r, 0, none⟩)) W3 ∧ DL now T mv (N + 1) W1 (N + 1) r left (fun d => left (eT d.k) = false) cnt cnt W3 ∧ (∀ k, mbk mv = some k → k < N + 1) ∧ N + 1 ≤ r) := by
    have hq := Qd.new_any (nb := nbD) rfl rfl (key := keyD) W1
    refine hq.mono ?_
    rintro e W2 ⟨rfl, qu, b2⟩
    rw [s1] at qu
    have b12 : Below N V W2 := by rw [← hN]; exact b1.trans (b2.mono (by omega))
    have hV2 := hV.below (hN ▸ b12)
    obtain ⟨mv, c5, _, tm, sub, _⟩ := hV2.tm
    obtain ⟨W3, left, cnt, hrun, rg, hall, hcnt, b3, s3⟩ := tm.range hT
    have lmv : ∀ k, mbk mv = some k → k < N := fun k hk => by have := lEl k (sub k hk).1; omega
    have s2 := b2.size
    refine ⟨by rw [s1]; rfl, bcell b12 (by have := cell_lt cbl; simp only at this; omega) cbl, mv, W3, _, left, cnt, c5, hrun, ⟨[], 0, fun k => k = N + 1, fun _ => False, qu.mv (D := fun _ => False) (Mv.below b3) (fun _ _ h => h) (fun _ _ h => h), fun d => ⟨(fun z => by cases z), fun z => ?_⟩, List.Pairwise.nil, rg, by omega, (s1 ▸ b2).trans (b3.mono (by omega)), fun k hk => ?_⟩, fun k hk => by have := lmv k hk; omega, by omega⟩
    · have z1 := hall d z.1
      have z2 : left (eT d.k) = false := z.2.2
      rw [z1] at z2; cases z2
    · rcases hk with rfl | hk
      · exact ⟨Nat.le_refl _, by have := qu.lt.1 (N + 1) rfl; omega⟩
      · exact hk.elim
  have hJH := hidP hJ
  have hJxH := hidP hJx
  have hYH := hidP hY
  have h0H := hidP h0
  have hTH := hidP hT
  have hTlH := hidP hTl
  have grH := hidP gr
  have lJH := hidP lJ
  have hYc : Hid (∀ w', Below (N + 1) W1 w' → w'.cell? ⟨N, 0, none⟩ = some (.func (.yield u) #[] #[])) := fun w' b => bcell b (by omega) y1
  have bV1H : Hid (Below N V W1) := by show Below _ _ _; rw [← hN]; exact b1
  have cbn1 : Hid (W1.cell? ⟨bn, 0, none⟩ = some (.int .i64 now)) := bcell b1 (cell_lt cbn) cbn
  have cbnH := hidP cbn
  have hNH := hidP hN
  have cbl1 : W1.cell? ⟨bl, 0, none⟩ = some (lp lb) := bcell b1 (cell_lt cbl) cbl
  have eqb : N ≤ W1.heap.size := by omega
  clear h hbl hbn n0 n1 n2 m hV cbl hJ hJx hY h0 hT hTl gr lJ y1 lEl b1 cbn s1 cbl1 eqb
  unfold lp at *
  refine (callsIn_wide (n := 5)).1 ?_
  refine callsIn_of_wp_marks Tryz.func53 rfl trivial ?_ rfl
  simp only [Tryz.ntmps53, List.size_toArray, List.length_cons, List.length_nil, Nat.reduceAdd, Nat.reduceSub, Array.replicate_succ, Array.replicate_zero, List.push_toArray, List.append_toArray, List.nil_append, List.cons_append]
  gi_wp2_with (rw [hW1])
  refine ⟨trivial, (callsIn_wide.2 hNw.out).mono ?_⟩
  rintro e W2 ⟨rfl, dbl, mv, W3, r, left, cnt, c5, hrun, hD, hv, hr⟩
  have hDH := hidP hD
  have hvH := hidP hv
  have hrH := hidP hr
  clear hNw hD hv hr hN
  gi_wp2_with fail
  gi_loopw [5, 6] (fun _ _ wr => ∃ left cnt, Hid (DL now T mv (N + 1) W1 (N + 1) r left (fun d => left (eT d.k) = false) cnt cnt wr)) (fun _ _ wr => YtjcdjkfnmobhkaaGreat.mr r mv wr)
  case atStart => exact ⟨left, cnt, hDH⟩
  case round =>
    clear hDH c5 hrun dbl
    obtain ⟨left, cnt, hD⟩ := hrel
    have hms : Hid (YtjcdjkfnmobhkaaGreat.mr r mv wr = cnt) := by
      obtain ⟨_, _, _, _, _, _, _, rg, _⟩ := hD.out
      exact rg.mr
    rcases hD.out.next hTH.out hvH.out (Nat.le_refl _) hrH.out 0 with ⟨hnx, n2, Eq, B, qu, bw, hge⟩ | ⟨d, hd, W', cnt', hnx, hen, hsz, hlt, hmv, hD', hl, hl0⟩
    · clear hD
      have hbwH := hidP bw
      have hsz : Hid (N < wr.heap.size) := by
        show _ < _
        have : N + 1 < wr.heap.size := qu.lt.1 (N + 1) (by obtain ⟨_, _, _, _, _, _, _, _, _, a6⟩ := qu; exact (a6 _).2 (.inl rfl))
        omega
      obtain ⟨U, hU⟩ : ∃ U, wr.alloc (.cells #[Qd.qp (N + 1)] 108) = U := ⟨_, rfl⟩
      have bU : Below wr.heap.size wr U := by rw [← hU]; exact (Below.refl _ _).alloc (Nat.le_refl _) _
      have hA := Qd.allf_any (N + 1) wr
      rw [hU] at hA
      obtain ⟨bb, hbb⟩ : ∃ bb, wr.heap.size = bb := ⟨_, rfl⟩
      have cbb : U.cell? ⟨bb, 0, none⟩ = some (Qd.qp (N + 1)) := by rw [← hU]; exact cell_at hbb rfl
      have lN := hNH.out
      have bVU : Below N V U := bV1H.out.trans ((bw.trans (bU.mono (by have := hsz.out; omega))).mono (by omega))
      have mV : Mv E1 V U := Mv.below (lN ▸ bVU)
      have quU := qu.mv (D := fun _ => False) (Mv.below bU) (fun _ _ h => h) (fun _ _ h => h)
      have hrow := Qd.allq_row bfDue (bl := bb) E1 U quU cbb (fun e => by have := lJH.out _ e; have := hsz.out; omega) (fun k hk e => by have := lJH.out _ e; have := hge k (.inl hk); omega) (fun k hk e => by have := lJH.out _ e; have := hge k (.inr hk); omega)
      have k0 : J (T.filter fun d => decide (d.t ≤ now)) E1 U := hJH.out.keep _ _ _ _ h0H.out (Mv.below (lN ▸ bVU))
      have sU : V.heap.size ≤ U.heap.size := mV.size
      have cy : U.cell? ⟨N, 0, none⟩ = some (.func (.yield u) #[] #[]) := by
        have y2 : wr.cell? ⟨N, 0, none⟩ = some (.func (.yield u) #[] #[]) := hYc.out wr bw
        exact bcell bU hsz.out y2
      have ey : ¬ E1 N := fun e => by have := lJH.out _ e; omega
      have tI := hJH.out.up sU
      have hA2 : Hid (Calls Tryz.prog 57 #[.pointer (some ⟨N + 1, 0, none⟩)] wr fun e V => e = .returned (.func (.func 72) #[] #[.pointer (some ⟨bb, 0, none⟩)]) ∧ V = U) := by rw [← hbb]; exact hA
      have hrowH := hidP hrow
      have k0H := hidP k0
      have mVH := hidP mV
      have cyH := hidP cy
      have tIH := hidP tI
      clear hA hrow k0 mV cy tI quU bVU bU cbb hU qu bw hge hbwH lN
      gi_wp2_with fail
      refine ⟨trivial, (callsIn_wide.2 hA2.out).mono ?_⟩
      rintro e V' ⟨rfl, rfl⟩
      gi_wp2_with fail
      refine loop_out (gf := 72) (lb := #[.pointer (some ⟨bb, 0, none⟩)]) rfl (enters_of Tryz.func72 (by kernel_rfl) rfl) hrowH.out (fun _ => rfl)
        J (fun c E2 W => c = Code.ret ∧ Jx () E2 W) tIH.out (((hJxH.out.comp (fun _ => ())).up sU).and (fun c => c = Code.ret)) k0H.out ?round ?done ?stop
      case round =>
        intro l1 hl1 x rest E2 U1 hi hm hg hEl hrec
        have hlt : l1 < U1.heap.size := by obtain ⟨r, hr⟩ := hrec; exact (Array.getElem?_eq_some_iff.1 hr).1
        simp only [Qd.encE]
        gi_wp2
        refine ⟨⟨Mv.alloc _ _ _, ?_⟩, fun U2 tw => ?_⟩
        · exact Below.heap_alloc _ _ _ hlt
        obtain ⟨hi2, hm2⟩ := tw.go tIH.out hi (Mv.alloc _ _ _) hm (Nat.le_refl _) hl1 hEl
        have cy2 : U2.cell? ⟨N, 0, none⟩ = some (.func (.yield u) #[] #[]) := hm2.cell ey cyH.out
        have q0 : U2.cell? ⟨U1.heap.size, 0, none⟩ = some (.string x.u) := tw.mv.cell (by show ¬ U1.heap.size = l1; omega) (cell_at rfl rfl)
        have q1 : U2.cell? ⟨U1.heap.size, 1, none⟩ = some (.string x.w) := tw.mv.cell (by show ¬ U1.heap.size = l1; omega) (cell_at rfl rfl)
        have q2 : U2.cell? ⟨U1.heap.size, 2, none⟩ = some (.int .i64 x.t) := tw.mv.cell (by show ¬ U1.heap.size = l1; omega) (cell_at rfl rfl)
        obtain ⟨fn, tmps, assign, body, hy, hR⟩ := hYH.out x rest E2 U2 hi2
        dsimp only [Qd.encE] at hy
        have hRH := hidP hR
        clear hi hm hR hi2 hm2
        gi_wp2_with fail
        refine (wide_round hRH.out).mono ?_
        rintro e W3 ⟨m3, (⟨rfl, E3, g3, hj3⟩ | ⟨rfl, E3, g3, hj3⟩)⟩
        · gi_wp2_with fail
          exact ⟨m3, E3, g3, hj3⟩
        · gi_wp2_with fail
          exact ⟨m3, E3, g3, rfl, hj3⟩
      case done =>
        intro D E2 U3 hD hK hnD hm hg hi
        gi_wp2
        refine ⟨by simp, .inl ⟨_, _, rfl, run_takeDeferred hK, ?_⟩⟩
        exact ⟨_, results_none rfl _ _ _, ⟨_, rfl⟩, (mVH.out.trans' hm).put_new (by omega) _, .inl ⟨E2, hg.mono sU, hJH.out.keep _ _ _ _ hi (.put ⟨hnD, by omega⟩ _)⟩⟩
      case stop =>
        rintro D c E2 U3 hD hK hnD hm hg ⟨rfl, hi⟩
        gi_wp2
        refine ⟨by simp, .inl ⟨_, _, rfl, run_takeDeferred hK, ?_⟩⟩
        exact ⟨_, results_none rfl _ _ _, ⟨_, rfl⟩, (mVH.out.trans' hm).put_new (by omega) _, .inr ⟨E2, hg.mono sU, hJxH.out.keep _ _ _ _ hi (.put ⟨hnD, by omega⟩ _)⟩⟩
    · obtain ⟨W4, hW4⟩ : ∃ W4, W'.alloc (.cells #[.string d.u, .string d.w] 82) = W4 := ⟨_, rfl⟩
      obtain ⟨M, hM⟩ : ∃ M, W'.heap.size = M := ⟨_, rfl⟩
      have b4 : Below W'.heap.size W' W4 := by rw [← hW4]; exact (Below.refl _ _).alloc (Nat.le_refl _) _
      have t0 : W4.cell? ⟨M, 0, none⟩ = some (.string d.u) := by rw [← hW4]; exact cell_at hM rfl
      have t1 : W4.cell? ⟨M, 1, none⟩ = some (.string d.w) := by rw [← hW4]; exact cell_at hM rfl
      have hlq : N + 1 < W'.heap.size := by
        obtain ⟨_, _, _, _, qu, _⟩ := hD'
        exact qu.lt.1 (N + 1) (by obtain ⟨_, _, _, _, _, _, _, _, _, a6⟩ := qu; exact (a6 _).2 (.inl rfl))
      have hD4 := hD'.mv b4 (by omega)
      have cbn4 : W4.cell? ⟨bn, 0, none⟩ = some (.int .i64 now) := by
        obtain ⟨_, _, _, _, _, _, _, _, _, bw, _⟩ := hD4
        exact bcell bw (by have := cell_lt cbnH.out; have := hNH.out; simp only at *; omega) cbn1.out
      have hnx' : (Instr.next (.pointer (some ⟨r, 0, none⟩)) false 0).run Tryz.prog wr = .ok (.tuple #[.bool true, .agg #[.string d.u, .string d.w], .int .i64 d.t]) W' := hnx
      have hen' : (Instr.entry (.pointer (some ⟨r, 0, none⟩))).run Tryz.prog W' = .ok (.tuple #[.agg #[.string d.u, .string d.w], .int .i64 d.t]) W' := hen
      have hms4 : ∀ W5 left2 cnt2, DL now T mv (N + 1) W1 (N + 1) r left2 (fun x => left2 (eT x.k) = false) cnt2 cnt2 W5 → cnt2 = cnt' → YtjcdjkfnmobhkaaGreat.mr r mv W5 < YtjcdjkfnmobhkaaGreat.mr r mv wr := fun W5 left2 cnt2 h5 e => by
        obtain ⟨_, _, _, _, _, _, _, rg, _⟩ := h5
        rw [rg.mr, hms.out, e]; exact hlt
      have hms4H := hidP hms4
      by_cases hdt : d.t ≤ now
      · have hP := hidP (hD4.push hd hdt hl hl0 hTlH.out hvH.out (Nat.le_refl _))
        clear hD hD' hD4 hl hl0 hmv hms4 hnx hen b4 hlq hsz
        gi_wp2_with (rw [hW4])
        refine ⟨trivial, (callsIn_wide.2 hP.out).mono ?_⟩
        rintro e W5 ⟨rfl, hD5, _⟩
        have hD5H := hidP hD5
        clear hD5 hP
        gi_wp2_with fail
        exact ⟨⟨_, cnt', hD5H⟩, hms4H.out W5 _ cnt' hD5H.out rfl⟩
      · have hD5H := hidP (hD4.skip hdt hl)
        clear hD hD' hD4 hl hl0 hmv hms4 hnx hen b4 hlq hsz
        gi_wp2_with (rw [hW4])
        exact ⟨⟨_, cnt', hD5H⟩, hms4H.out W4 _ cnt' hD5H.out rfl⟩
end Go.Proofs.YtjcdjkfnmobhkaaGreat
