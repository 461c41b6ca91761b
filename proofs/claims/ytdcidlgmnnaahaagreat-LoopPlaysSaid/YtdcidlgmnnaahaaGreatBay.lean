import Derived.Test.YtdcidlgmnnaahaaGreatLKB
/- At. -/
namespace Go.Proofs.YtdcidlgmnnaahaaGreat
open Go.RowKit Go.Shelf Go.Lib
attribute [local go_sem] Oper.semAt_some
theorem TM.look {w : World} {v : Value} {T : List Du} (h : TM w v T) (hT : Ts T) (k : TK) :
    (Instr.lookup 55 v (kV k) true).run Tryz.prog w = .ok (.tuple #[.int .i64 ((lk T k).getD 0), .bool (lk T k).isSome]) w := by
  rcases h with ⟨rfl, rfl⟩ | ⟨b, rfl, h⟩
  · exact Maps.look_nil (z := .int .i64 0) true lawT Tryz.underlying55 (by simp [Tryz.zeroValue2]) (keyT k)
  · exact h.look hT Tryz.underlying55 (by simp [Tryz.zeroValue2]) k
set_option maxRecDepth 100000 in
theorem atl_any {w : World} {lb : Nat} {E : Nat → Prop} {L : List Wt} {n : Nat} {T : List Du} (h : Lo w lb E L n T) (k : TK) :
    Calls Tryz.prog 20 #[lp lb, .string k.1.1, .string k.1.2] w fun e V => e = .returned (.int .i64 ((lk T k).getD 9223372036854775807)) ∧ V = w := by
  obtain ⟨mv, c5, _, tm, _⟩ := h.tm
  have hT := h.ts
  obtain ⟨p, rfl⟩ : ∃ p, mv = .map p := by
    rcases tm with ⟨e, _⟩ | ⟨b, e, _⟩
    · exact ⟨_, e⟩
    · exact ⟨_, e⟩
  have hl := tm.look hT k
  obtain ⟨x, hx⟩ : ∃ x, k.1.1 = x := ⟨_, rfl⟩
  obtain ⟨y, hy⟩ : ∃ y, k.1.2 = y := ⟨_, rfl⟩
  unfold kV at hl
  rw [hx, hy] at hl ⊢
  clear tm hT h hx hy
  unfold lp
  cases e : lk T k with
  | none =>
    rw [e] at hl
    simp only [Option.getD_none, Option.isSome_none] at hl ⊢
    clear e
    go_enter Tryz.func20, Tryz.ntmps20
    go_wp2_with fail
    go_ret
    exact ⟨rfl, rfl⟩
  | some t =>
    rw [e] at hl
    simp only [Option.getD_some, Option.isSome_some] at hl ⊢
    clear e
    go_enter Tryz.func20, Tryz.ntmps20
    go_wp2_with fail
    go_ret
    exact ⟨rfl, rfl⟩
end Go.Proofs.YtdcidlgmnnaahaaGreat
/- The timers, given to the closure of LoopPlays. -/
namespace Go.Proofs.YtdcidlgmnnaahaaGreat
open Go.RowKit Go.Shelf Go.Lib
attribute [local go_sem] Oper.semAt_some
set_option maxRecDepth 100000 in
set_option maxHeartbeats 4000000 in
theorem due_plays {now : Int} {lb n bl bn : Nat} {El : Nat → Prop} {L : List Wt} {T : List Du} (k1 : Nat) (E1 : Nat → Prop) (V : World) (hV : Lo V lb El L n T) (cbl : V.cell? ⟨bl, 0, none⟩ = some (lp lb)) (cbn : V.cell? ⟨bn, 0, none⟩ = some (.int .i64 now)) (J : List Du → (Nat → Prop) → World → Prop) (hJ : Ter V.heap.size J)
    (hY : ∀ x rest E W, J (x :: rest) E W → Calls Tryz.prog 42 #[.agg #[.string x.u, .string x.w, .int .i64 x.t], .pointer (some ⟨k1, 0, none⟩)] W fun e W' => e = .returned (.bool true) ∧ Mv E W W' ∧ ∃ E', Gr E W E' ∧ J rest E' W')
    (h0 : J (T.filter fun d => decide (d.t ≤ now)) E1 V) :
    Calls Tryz.prog 49 #[.func (.func 42) #[] #[.pointer (some ⟨k1, 0, none⟩)], .pointer (some ⟨bl, 0, none⟩), .pointer (some ⟨bn, 0, none⟩)] V fun e W => e = .returned (.tuple #[]) ∧ Mv E1 V W ∧ ∃ E', Gr E1 V E' ∧ J [] E' W := by
  have lJ := hJ.low _ _ _ h0
  obtain ⟨N, hN⟩ : ∃ N, V.heap.size = N := ⟨_, rfl⟩
  obtain ⟨W1, hW1⟩ : ∃ W1, V.alloc (.cells #[.func (.func 42) #[] #[.pointer (some ⟨k1, 0, none⟩)]] 88) = W1 := ⟨_, rfl⟩
  have b1 : Below V.heap.size V W1 := by rw [← hW1]; exact (Below.refl _ _).alloc (Nat.le_refl _) _
  have s1 : W1.heap.size = N + 1 := by rw [← hW1]; simp [hN]
  have y1 : W1.cell? ⟨N, 0, none⟩ = some (.func (.func 42) #[] #[.pointer (some ⟨k1, 0, none⟩)]) := by rw [← hW1]; exact cell_at hN rfl
  have hT := hV.ts
  have hTl := hV.tlen
  have lEl := hV.lt.1
  have hNw : Hid (Calls Tryz.prog 50 #[.func (.func 51) #[] #[]] W1 fun e W2 => e = .returned (.pointer (some ⟨N + 1, 0, none⟩)) ∧ W2.cell? ⟨bl, 0, none⟩ = some (lp lb) ∧ ∃ mv W3 r left cnt, W2.cell? ⟨lb, 5, none⟩ = some mv ∧ (Instr.range 55 mv).run Tryz.prog W2 = .ok (.pointer (some ⟨r, 0, none⟩)) W3 ∧ DL now T mv (N + 1) W1 (N + 1) r left (fun d => left (eT d.k) = false) cnt cnt W3 ∧ (∀ k, mbk mv = some k → k < N + 1) ∧ N + 1 ≤ r) := by
    have hq := Qd.new_any (nb := nbD) rfl rfl (key := keyD) W1
    refine hq.mono ?_
    rintro e W2 ⟨rfl, qu, b2⟩
    rw [s1] at qu
    have b12 : Below N V W2 := by rw [← hN]; exact b1.trans (b2.mono (by omega))
    have hV2 := hV.below (hN ▸ b12)
    obtain ⟨mv, c5, _, tm, sub, _⟩ := hV2.tm
    obtain ⟨W3, left, cnt, hrun, rg, hall, hcnt, b3, s3⟩ := tm.range hT
    have lmv : ∀ k, mbk mv = some k → k < N := fun k hk => by have := lEl k (sub k hk).1; omega
    have s2 := b2.size
    refine ⟨by rw [s1]; rfl, bcell b12 (by have := cell_lt cbl; simp only at this; omega) cbl, mv, W3, _, left, cnt, c5, hrun, ⟨[], 0, fun k => k = N + 1, fun _ => False, qu.mv (D := fun _ => False) (Mv.below b3) (fun _ _ h => h) (fun _ _ h => h), fun d => ⟨(fun z => by cases z), fun z => ?_⟩, List.Pairwise.nil, rg, by omega, (s1 ▸ b2).trans (b3.mono (by omega)), fun k hk => ?_⟩, fun k hk => by have := lmv k hk; omega, by omega⟩
    · have z1 := hall d z.1
      have z2 : left (eT d.k) = false := z.2.2
      rw [z1] at z2; cases z2
    · rcases hk with rfl | hk
      · exact ⟨Nat.le_refl _, by have := qu.lt.1 (N + 1) rfl; omega⟩
      · exact hk.elim
  have hJH := hidP hJ
  have hYH := hidP hY
  have h0H := hidP h0
  have hTH := hidP hT
  have hTlH := hidP hTl
  have lJH := hidP lJ
  have hYc : Hid (∀ w', Below (N + 1) W1 w' → w'.cell? ⟨N, 0, none⟩ = some (.func (.func 42) #[] #[.pointer (some ⟨k1, 0, none⟩)])) := fun w' b => bcell b (by omega) y1
  have bV1H : Hid (Below N V W1) := by show Below _ _ _; rw [← hN]; exact b1
  have cbn1 : Hid (W1.cell? ⟨bn, 0, none⟩ = some (.int .i64 now)) := bcell b1 (cell_lt cbn) cbn
  have cbnH := hidP cbn
  have hNH := hidP hN
  have cbl1 : W1.cell? ⟨bl, 0, none⟩ = some (lp lb) := bcell b1 (cell_lt cbl) cbl
  have eqb : N ≤ W1.heap.size := by omega
  clear hV cbl hJ hY h0 hT hTl lJ y1 lEl b1 cbn s1 cbl1 eqb
  unfold lp at *
  refine (callsIn_wide (n := 5)).1 ?_
  refine callsIn_of_wp_marks Tryz.func49 rfl trivial ?_ rfl
  simp only [Tryz.ntmps49, List.size_toArray, List.length_cons, List.length_nil, Nat.reduceAdd, Nat.reduceSub, Array.replicate_succ, Array.replicate_zero, List.push_toArray, List.append_toArray, List.nil_append, List.cons_append]
  gi_wp2_with (rw [hW1])
  refine ⟨trivial, (callsIn_wide.2 hNw.out).mono ?_⟩
  rintro e W2 ⟨rfl, dbl, mv, W3, r, left, cnt, c5, hrun, hD, hv, hr⟩
  have hDH := hidP hD
  have hvH := hidP hv
  have hrH := hidP hr
  clear hNw hD hv hr hN
  gi_wp2_with fail
  gi_loopw [5, 6] (fun _ _ wr => ∃ left cnt, Hid (DL now T mv (N + 1) W1 (N + 1) r left (fun d => left (eT d.k) = false) cnt cnt wr)) (fun _ _ wr => YtdcidlgmnnaahaaGreat.mr r mv wr)
  case atStart => exact ⟨left, cnt, hDH⟩
  case round =>
    clear hDH c5 hrun dbl
    obtain ⟨left, cnt, hD⟩ := hrel
    have hms : Hid (YtdcidlgmnnaahaaGreat.mr r mv wr = cnt) := by
      obtain ⟨_, _, _, _, _, _, _, rg, _⟩ := hD.out
      exact rg.mr
    rcases hD.out.next hTH.out hvH.out (Nat.le_refl _) hrH.out 0 with ⟨hnx, n2, Eq, B, qu, bw, hge⟩ | ⟨d, hd, W', cnt', hnx, hen, hsz, hlt, hmv, hD', hl, hl0⟩
    · clear hD
      have hbwH := hidP bw
      have hsz : Hid (N < wr.heap.size) := by
        show _ < _
        have : N + 1 < wr.heap.size := qu.lt.1 (N + 1) (by obtain ⟨_, _, _, _, _, _, _, _, _, a6⟩ := qu; exact (a6 _).2 (.inl rfl))
        omega
      obtain ⟨U, hU⟩ : ∃ U, wr.alloc (.cells #[Qd.qp (N + 1)] 98) = U := ⟨_, rfl⟩
      have bU : Below wr.heap.size wr U := by rw [← hU]; exact (Below.refl _ _).alloc (Nat.le_refl _) _
      have hA := Qd.allf_any (N + 1) wr
      rw [hU] at hA
      obtain ⟨bb, hbb⟩ : ∃ bb, wr.heap.size = bb := ⟨_, rfl⟩
      have cbb : U.cell? ⟨bb, 0, none⟩ = some (Qd.qp (N + 1)) := by rw [← hU]; exact cell_at hbb rfl
      have lN := hNH.out
      have bVU : Below N V U := bV1H.out.trans ((bw.trans (bU.mono (by have := hsz.out; omega))).mono (by omega))
      have mV : Mv E1 V U := Mv.below (lN ▸ bVU)
      have quU := qu.mv (D := fun _ => False) (Mv.below bU) (fun _ _ h => h) (fun _ _ h => h)
      have hrow := Qd.allq_row bfDue (bl := bb) E1 U quU cbb (fun e => by have := lJH.out _ e; have := hsz.out; omega) (fun k hk e => by have := lJH.out _ e; have := hge k (.inl hk); omega) (fun k hk e => by have := lJH.out _ e; have := hge k (.inr hk); omega)
      have k0 : J (T.filter fun d => decide (d.t ≤ now)) E1 U := hJH.out.keep _ _ _ _ h0H.out (Mv.below (lN ▸ bVU))
      have sU : V.heap.size ≤ U.heap.size := mV.size
      have cy : U.cell? ⟨N, 0, none⟩ = some (.func (.func 42) #[] #[.pointer (some ⟨k1, 0, none⟩)]) := by
        have y2 : wr.cell? ⟨N, 0, none⟩ = some (.func (.func 42) #[] #[.pointer (some ⟨k1, 0, none⟩)]) := hYc.out wr bw
        exact bcell bU hsz.out y2
      have ey : ¬ E1 N := fun e => by have := lJH.out _ e; omega
      have tI := hJH.out.up sU
      have hA2 : Hid (Calls Tryz.prog 53 #[.pointer (some ⟨N + 1, 0, none⟩)] wr fun e V => e = .returned (.func (.func 68) #[] #[.pointer (some ⟨bb, 0, none⟩)]) ∧ V = U) := by rw [← hbb]; exact hA
      have hrowH := hidP hrow
      have k0H := hidP k0
      have mVH := hidP mV
      have cyH := hidP cy
      have tIH := hidP tI
      clear hA hrow k0 mV cy tI quU bVU bU cbb hU qu bw hge hbwH lN
      gi_wp2_with fail
      refine ⟨trivial, (callsIn_wide.2 hA2.out).mono ?_⟩
      rintro e V' ⟨rfl, rfl⟩
      gi_wp2_with fail
      refine loop_out (gf := 68) (lb := #[.pointer (some ⟨bb, 0, none⟩)]) rfl (enters_of Tryz.func68 (by kernel_rfl) rfl) hrowH.out (fun _ => rfl)
        J (fun _ _ _ => False) tIH.out ⟨fun _ _ _ _ h _ => h.elim, fun _ _ _ h => h.elim⟩ k0H.out ?round ?done ?stop
      case round =>
        intro l1 hl1 x rest E2 U1 hi hm hg hEl hrec
        have hlt : l1 < U1.heap.size := by obtain ⟨r, hr⟩ := hrec; exact (Array.getElem?_eq_some_iff.1 hr).1
        simp only [Qd.encE]
        gi_wp2
        refine ⟨⟨Mv.alloc _ _ _, ?_⟩, fun U2 tw => ?_⟩
        · exact Below.heap_alloc _ _ _ hlt
        obtain ⟨hi2, hm2⟩ := tw.go tIH.out hi (Mv.alloc _ _ _) hm (Nat.le_refl _) hl1 hEl
        have cy2 : U2.cell? ⟨N, 0, none⟩ = some (.func (.func 42) #[] #[.pointer (some ⟨k1, 0, none⟩)]) := hm2.cell ey cyH.out
        have q0 : U2.cell? ⟨U1.heap.size, 0, none⟩ = some (.string x.u) := tw.mv.cell (by show ¬ U1.heap.size = l1; omega) (cell_at rfl rfl)
        have q1 : U2.cell? ⟨U1.heap.size, 1, none⟩ = some (.string x.w) := tw.mv.cell (by show ¬ U1.heap.size = l1; omega) (cell_at rfl rfl)
        have q2 : U2.cell? ⟨U1.heap.size, 2, none⟩ = some (.int .i64 x.t) := tw.mv.cell (by show ¬ U1.heap.size = l1; omega) (cell_at rfl rfl)
        have hmt := hidP (hYH.out x rest E2 U2 hi2)
        clear hi hm hi2 hm2
        gi_wp2_with fail
        refine ⟨trivial, (CallsIn.inRound l1 (callsIn_wide.2 hmt.out)).mono ?_⟩
        rintro e U3 ⟨rfl, m3, E3, g3, hj3⟩
        gi_wp2_with fail
        exact ⟨m3, E3, g3, hj3⟩
      case done =>
        intro D E2 U3 hD hK hnD hm hg hi
        gi_wp2
        refine ⟨by simp, .inl ⟨_, _, rfl, run_takeDeferred hK, ?_⟩⟩
        exact ⟨_, results_none rfl _ _ _, rfl, (mVH.out.trans' hm).put_new (by omega) _, E2, hg.mono sU, hJH.out.keep _ _ _ _ hi (.put ⟨hnD, by omega⟩ _)⟩
      case stop =>
        intro D c E2 U3 hD hK hnD hm hg h
        exact h.elim
    · obtain ⟨W4, hW4⟩ : ∃ W4, W'.alloc (.cells #[.string d.u, .string d.w] 66) = W4 := ⟨_, rfl⟩
      obtain ⟨M, hM⟩ : ∃ M, W'.heap.size = M := ⟨_, rfl⟩
      have b4 : Below W'.heap.size W' W4 := by rw [← hW4]; exact (Below.refl _ _).alloc (Nat.le_refl _) _
      have t0 : W4.cell? ⟨M, 0, none⟩ = some (.string d.u) := by rw [← hW4]; exact cell_at hM rfl
      have t1 : W4.cell? ⟨M, 1, none⟩ = some (.string d.w) := by rw [← hW4]; exact cell_at hM rfl
      have hlq : N + 1 < W'.heap.size := by
        obtain ⟨_, _, _, _, qu, _⟩ := hD'
        exact qu.lt.1 (N + 1) (by obtain ⟨_, _, _, _, _, _, _, _, _, a6⟩ := qu; exact (a6 _).2 (.inl rfl))
      have hD4 := hD'.mv b4 (by omega)
      have cbn4 : W4.cell? ⟨bn, 0, none⟩ = some (.int .i64 now) := by
        obtain ⟨_, _, _, _, _, _, _, _, _, bw, _⟩ := hD4
        exact bcell bw (by have := cell_lt cbnH.out; have := hNH.out; simp only at *; omega) cbn1.out
      have hnx' : (Instr.next (.pointer (some ⟨r, 0, none⟩)) false 0).run Tryz.prog wr = .ok (.tuple #[.bool true, .agg #[.string d.u, .string d.w], .int .i64 d.t]) W' := hnx
      have hen' : (Instr.entry (.pointer (some ⟨r, 0, none⟩))).run Tryz.prog W' = .ok (.tuple #[.agg #[.string d.u, .string d.w], .int .i64 d.t]) W' := hen
      have hms4 : ∀ W5 left2 cnt2, DL now T mv (N + 1) W1 (N + 1) r left2 (fun x => left2 (eT x.k) = false) cnt2 cnt2 W5 → cnt2 = cnt' → YtdcidlgmnnaahaaGreat.mr r mv W5 < YtdcidlgmnnaahaaGreat.mr r mv wr := fun W5 left2 cnt2 h5 e => by
        obtain ⟨_, _, _, _, _, _, _, rg, _⟩ := h5
        rw [rg.mr, hms.out, e]; exact hlt
      have hms4H := hidP hms4
      by_cases hdt : d.t ≤ now
      · have hP := hidP (hD4.push hd hdt hl hl0 hTlH.out hvH.out (Nat.le_refl _))
        clear hD hD' hD4 hl hl0 hmv hms4 hnx hen b4 hlq hsz
        gi_wp2_with (rw [hW4])
        refine ⟨trivial, (callsIn_wide.2 hP.out).mono ?_⟩
        rintro e W5 ⟨rfl, hD5, _⟩
        have hD5H := hidP hD5
        clear hD5 hP
        gi_wp2_with fail
        exact ⟨⟨_, cnt', hD5H⟩, hms4H.out W5 _ cnt' hD5H.out rfl⟩
      · have hD5H := hidP (hD4.skip hdt hl)
        clear hD hD' hD4 hl hl0 hmv hms4 hnx hen b4 hlq hsz
        gi_wp2_with (rw [hW4])
        exact ⟨⟨_, cnt', hD5H⟩, hms4H.out W4 _ cnt' hD5H.out rfl⟩
end Go.Proofs.YtdcidlgmnnaahaaGreat
/- Forget: the closures, maps.DeleteFunc at the timers. -/
namespace Go.Proofs.YtdcidlgmnnaahaaGreat
open Go.RowKit Go.Shelf Go.Lib
attribute [local go_sem] Oper.semAt_some
theorem beqT (x y : ByteArray) : (x.toList == y.toList) = decide (x = y) := by
  by_cases e : x = y
  · subst e; simp
  · have : ¬ x.toList = y.toList := fun z => e (ba_ext z)
    simp [e, this]
set_option maxRecDepth 100000 in
theorem forget1_any (x y : ByteArray) (at_ : Int) {br : Nat} {u : ByteArray} {W : World} (hc : W.cell? ⟨br, 0, none⟩ = some (.string u)) :
    Calls Tryz.prog 33 #[.agg #[.string x, .string y], .int .i64 at_, .pointer (some ⟨br, 0, none⟩)] W fun e V => e = .returned (.bool (decide (x = u))) ∧ Below W.heap.size W V := by
  obtain ⟨N, hN⟩ : ∃ N, W.heap.size = N := ⟨_, rfl⟩
  obtain ⟨W1, hW1⟩ : ∃ W1, W.alloc (.cells #[.string x, .string y] 66) = W1 := ⟨_, rfl⟩
  have b1 : Below W.heap.size W W1 := by rw [← hW1]; exact (Below.refl _ _).alloc (Nat.le_refl _) _
  have c0 : W1.cell? ⟨N, 0, none⟩ = some (.string x) := by rw [← hW1]; exact cell_at hN rfl
  have cu : W1.cell? ⟨br, 0, none⟩ = some (.string u) := bcell b1 (cell_lt hc) hc
  have bH := hidP b1
  clear b1 hc
  go_enter Tryz.func33, Tryz.ntmps33
  go_wp2_with (rw [hW1])
  go_ret
  exact ⟨by simp [beqT], bH.out⟩
set_option maxRecDepth 100000 in
theorem forget2_any (x : Wt) {br : Nat} {u : ByteArray} {W : World} (hc : W.cell? ⟨br, 0, none⟩ = some (.string u)) :
    Calls Tryz.prog 35 #[Qw.ev x, .pointer (some ⟨br, 0, none⟩)] W fun e V => e = .returned (.bool (decide (x.u = u))) ∧ Below W.heap.size W V := by
  obtain ⟨N, hN⟩ : ∃ N, W.heap.size = N := ⟨_, rfl⟩
  obtain ⟨xu, hxu⟩ : ∃ xu, x.u = xu := ⟨_, rfl⟩
  unfold Qw.ev
  rw [hxu]
  obtain ⟨W1, hW1⟩ : ∃ W1, W.alloc (.cells #[.int .i64 x.k, .int .i64 x.p, .int .i64 x.s, .string xu, .string x.x, .int .i64 x.n] 61) = W1 := ⟨_, rfl⟩
  have b1 : Below W.heap.size W W1 := by rw [← hW1]; exact (Below.refl _ _).alloc (Nat.le_refl _) _
  have c0 : W1.cell? ⟨N, 3, none⟩ = some (.string xu) := by rw [← hW1]; exact cell_at hN rfl
  have cu : W1.cell? ⟨br, 0, none⟩ = some (.string u) := bcell b1 (cell_lt hc) hc
  have bH := hidP b1
  clear b1 hc
  go_enter Tryz.func35, Tryz.ntmps35
  go_wp2_with (rw [hW1])
  go_ret
  exact ⟨by simp [beqT], bH.out⟩
theorem Rg.tm {W : World} {r : Nat} {v : Value} {T : List Du} {left : Lit → Bool} {cnt : Nat} (h : Rg W r v T left cnt) : TM W v T := by
  rcases h with ⟨rfl, rfl, _⟩ | ⟨b, n, l, rfl, h, hp⟩
  · exact .inl ⟨rfl, rfl⟩
  · refine .inr ⟨b, rfl, l, ?_, hp⟩
    have h3 := ownsMap_norm h.owns
    have h4 : Maps.size (.map l) = T.length := by
      rw [Maps.size_eq]
      have := hp.length_eq
      rw [List.length_map] at this
      exact this
    rw [h4] at h3
    exact h3
theorem Rg.drop {W : World} {r : Nat} {v : Value} {T : List Du} {left : Lit → Bool} {cnt : Nat} (h : Rg W r v T left cnt) (k : TK) (ty : TypeId) :
    ∃ W' cnt', (Builtin.delete_ #[55, 66] ty #[v, kV k]).run Tryz.prog W = .ok (.tuple #[]) W' ∧ Rg W' r v (delT k T) (fun z => left z && !z.sameKey (eT k)) cnt' ∧ cnt' ≤ cnt ∧ Mv (fun k => mbk v = some k) W W' := by
  rcases h with ⟨rfl, rfl, rfl, h⟩ | ⟨b, n, l, rfl, h, hp⟩
  · exact ⟨W, 0, Maps.drop_nil lawT Tryz.underlying55 (keyT k) ty, .inl ⟨rfl, rfl, rfl, h⟩, Nat.le_refl _, Mv.refl _ _⟩
  · obtain ⟨w', cnt', hrun, hr, hle, ht⟩ := h.drop lawT Tryz.underlying55 (keyT k) ty
    exact ⟨w', cnt', hrun, .inr ⟨b, n, _, rfl, hr, ent_del hp k⟩, hle, ((Mv.refl (fun k => mbk (.map (some b)) = some k) _).grown ht.grown (fun k e => .inl (by cases e; rfl)))⟩
/-- Going through the timers while those of a unit are deleted. -/
def DF (T : List Du) (u : ByteArray) (mv : Value) (V : World) (r : Nat) (left : Lit → Bool) (cnt : Nat) (wr : World) : Prop :=
  Rg wr r mv (T.filter fun d => left (eT d.k) || !decide (d.u = u)) left cnt ∧ Mv (fun k => mbk mv = some k) V wr
theorem DF.next {T : List Du} (hT : Ts T) {u : ByteArray} {mv : Value} {V : World} {r : Nat} {left : Lit → Bool} {cnt : Nat} {wr : World} (h : DF T u mv V r left cnt wr) (hr : V.heap.size ≤ r) :
    ((Instr.next (.pointer (some ⟨r, 0, none⟩)) false 0).run Tryz.prog wr = .ok (.tuple #[.bool false]) wr ∧ TM wr mv (T.filter fun d => !decide (d.u = u)) ∧ Mv (fun k => mbk mv = some k) V wr) ∨
    ∃ d ∈ T, ∃ W' cnt', (Instr.next (.pointer (some ⟨r, 0, none⟩)) false 0).run Tryz.prog wr = .ok (.tuple #[.bool true, .agg #[.string d.u, .string d.w], .int .i64 d.t]) W' ∧ (Instr.entry (.pointer (some ⟨r, 0, none⟩))).run Tryz.prog W' = .ok (.tuple #[.agg #[.string d.u, .string d.w], .int .i64 d.t]) W' ∧ cnt' < cnt ∧
      ∀ U, Below W'.heap.size W' U → Mv (fun k => mbk mv = some k) V U ∧ (¬ d.u = u → ∃ left', DF T u mv V r left' cnt' U) ∧
        (d.u = u → ∃ U' left' cnt2, (Builtin.delete_ #[55, 66] 0 #[mv, .agg #[.string d.u, .string d.w]]).run Tryz.prog U = .ok (.tuple #[]) U' ∧ DF T u mv V r left' cnt2 U' ∧ cnt2 < cnt) := by
  obtain ⟨rg, m⟩ := h
  rcases rg.next (hT.filter _) 0 with ⟨hl, hrun⟩ | ⟨d, hd, hl, W', cnt', hrun, hen, hrg, hlt, hm, hsz⟩
  · refine .inl ⟨hrun, ?_, m⟩
    have e : (T.filter fun d => left (eT d.k) || !decide (d.u = u)) = T.filter fun d => !decide (d.u = u) := by
      refine List.filter_congr fun x hx => ?_
      by_cases e : left (eT x.k) = true
      · have := hl x (List.mem_filter.2 ⟨hx, by simp [e]⟩)
        rw [e] at this; cases this
      · have e2 : left (eT x.k) = false := by simpa using e
        rw [e2]; rfl
    rw [← e]; exact rg.tm
  · have hdT := (List.mem_filter.1 hd).1
    have ne : ∀ x ∈ T, x ≠ d → (eT x.k).sameKey (eT d.k) = false := fun x hx e => Maps.sameKey_ne fun z => e (hT.one hx hdT (eT_inj z))
    refine .inr ⟨d, hdT, W', cnt', hrun, hen, hlt, fun U b => ?_⟩
    have mW : Mv (fun k => mbk mv = some k) V W' := m.trans (E' := fun k => k = r) (fun k e => .inr (e ▸ hr)) hm
    have mU : Mv (fun k => mbk mv = some k) V U := mW.trans' (Mv.below b)
    have rU := hrg.mv (E := fun _ => False) (Mv.below b) (fun h => h) (fun _ _ h => h)
    refine ⟨mU, fun hu => ⟨fun z => left z && !z.sameKey (eT d.k), ?_, mU⟩, fun hu => ?_⟩
    · have e : (T.filter fun x => (left (eT x.k) && !(eT x.k).sameKey (eT d.k)) || !decide (x.u = u)) = T.filter fun x => left (eT x.k) || !decide (x.u = u) := by
        refine List.filter_congr fun x hx => ?_
        by_cases e : x = d
        · subst e; simp [hu]
        · rw [ne x hx e]; simp
      show Rg U r mv (T.filter fun x => (left (eT x.k) && !(eT x.k).sameKey (eT d.k)) || !decide (x.u = u)) _ _
      rw [e]; exact rU
    · obtain ⟨U', cnt2, hr2, hg2, hle, hm2⟩ := rU.drop d.k 0
      refine ⟨U', fun z => (left z && !z.sameKey (eT d.k)) && !z.sameKey (eT d.k), cnt2, hr2, ⟨?_, mU.trans' hm2⟩, by omega⟩
      have e : delT d.k (T.filter fun x => left (eT x.k) || !decide (x.u = u)) = T.filter fun x => ((left (eT x.k) && !(eT x.k).sameKey (eT d.k)) && !(eT x.k).sameKey (eT d.k)) || !decide (x.u = u) := by
        unfold delT
        rw [List.filter_filter]
        refine List.filter_congr fun x hx => ?_
        by_cases e : x = d
        · subst e; simp [hu, WideAt.sameKey_self (klT _)]
        · have e2 : ¬ x.k = d.k := fun z => e (hT.one hx hdT z)
          rw [ne x hx e]; simp [e2]
      show Rg U' r mv (T.filter fun x => ((left (eT x.k) && !(eT x.k).sameKey (eT d.k)) && !(eT x.k).sameKey (eT d.k)) || !decide (x.u = u)) _ _
      rw [← e]; exact hg2
set_option maxRecDepth 100000 in
set_option maxHeartbeats 4000000 in
theorem delf_any {w : World} {mv : Value} {T : List Du} (h : TM w mv T) (hT : Ts T) {br : Nat} {u : ByteArray} (hc : w.cell? ⟨br, 0, none⟩ = some (.string u)) (hbr : mbk mv ≠ some br) :
    Calls Tryz.prog 32 #[mv, .func (.func 33) #[] #[.pointer (some ⟨br, 0, none⟩)]] w fun e V => e = .returned (.tuple #[]) ∧ TM V mv (T.filter fun d => !decide (d.u = u)) ∧ Mv (fun k => mbk mv = some k) w V := by
  obtain ⟨p, rfl⟩ : ∃ p, mv = .map p := by
    rcases h with ⟨e, _⟩ | ⟨b, e, _⟩
    · exact ⟨_, e⟩
    · exact ⟨_, e⟩
  obtain ⟨W1, left, cnt, hrun, rg, hall, hcnt, b1, s1⟩ := h.range hT
  obtain ⟨r, hr⟩ : ∃ r, w.heap.size = r := ⟨_, rfl⟩
  rw [hr] at hrun rg
  have d0 : Hid (DF T u (.map p) w r left cnt W1) := by
    refine ⟨?_, Mv.below b1⟩
    rw [List.filter_eq_self.2 fun x hx => by rw [hall x hx]; rfl]
    exact rg
  have hTH := hidP hT
  have hcH := hidP hc
  have hbrH := hidP hbr
  have hrH := hidP hr
  clear h hT hc hbr rg hall hcnt b1 s1 hr
  go_enter Tryz.func32, Tryz.ntmps32
  go_wp2_with fail
  go_loopw [4, 5] (fun _ _ wr => ∃ left cnt, Hid (DF T u (.map p) w r left cnt wr)) (fun _ _ wr => YtdcidlgmnnaahaaGreat.mr r (.map p) wr)
  case atStart => exact ⟨left, cnt, d0⟩
  case round =>
    clear d0 hrun
    obtain ⟨left, cnt, hD⟩ := hrel
    have hms : Hid (YtdcidlgmnnaahaaGreat.mr r (.map p) wr = cnt) := hD.out.1.mr
    rcases hD.out.next hTH.out (by have := hrH.out; omega) with ⟨hnx, tm, m⟩ | ⟨d, hd, W', cnt', hnx, hen, hlt, hU⟩
    · have tmH := hidP tm
      have mH := hidP m
      clear hD tm m
      go_wp2_with fail
      go_end0
      exact ⟨rfl, tmH.out, mH.out⟩
    · obtain ⟨W4, hW4⟩ : ∃ W4, W'.alloc (.cells #[.string d.u, .string d.w] 66) = W4 := ⟨_, rfl⟩
      obtain ⟨M, hM⟩ : ∃ M, W'.heap.size = M := ⟨_, rfl⟩
      have b4 : Below W'.heap.size W' W4 := by rw [← hW4]; exact (Below.refl _ _).alloc (Nat.le_refl _) _
      have t0 : W4.cell? ⟨M, 0, none⟩ = some (.string d.u) := by rw [← hW4]; exact cell_at hM rfl
      have t1 : W4.cell? ⟨M, 1, none⟩ = some (.string d.w) := by rw [← hW4]; exact cell_at hM rfl
      have c4 : W4.cell? ⟨br, 0, none⟩ = some (.string u) := (hU W4 b4).1.cell (a := ⟨br, 0, none⟩) hbrH.out hcH.out
      have hF := hidP (forget1_any d.u d.w d.t c4)
      have s4 : M < W4.heap.size := by rw [← hW4]; simp [hM]
      have hUH := hidP (fun U (b : Below W4.heap.size W4 U) => hU U (b4.trans (b.mono b4.size)))
      have tt : Hid (∀ U, Below W4.heap.size W4 U → U.cell? ⟨M, 0, none⟩ = some (.string d.u) ∧ U.cell? ⟨M, 1, none⟩ = some (.string d.w)) := fun U b => ⟨bcell b s4 t0, bcell b s4 t1⟩
      have msH : Hid (∀ U left2 cnt2, DF T u (.map p) w r left2 cnt2 U → cnt2 < cnt → YtdcidlgmnnaahaaGreat.mr r (.map p) U < YtdcidlgmnnaahaaGreat.mr r (.map p) wr) := fun U l2 c2 h5 e => by
        rw [h5.1.mr, hms.out]; exact e
      have hltH2 := hidP hlt
      clear hD hU b4 c4 s4 hlt
      go_wp2_with (rw [hW4])
      refine hF.out.mono ?_
      rintro e U ⟨rfl, bU⟩
      obtain ⟨_, h1, h2⟩ := hUH.out U bU
      obtain ⟨t0', t1'⟩ := tt.out U bU
      by_cases hu : d.u = u
      · have hud : decide (d.u = u) = true := by simpa using hu
        obtain ⟨U', l2, c2, hdel, hD2, hc2⟩ := h2 hu
        have hD2H := hidP hD2
        have hc2H := hidP hc2
        rw [hud]
        clear h1 h2 hF hUH tt bU hW4 hu hud hD2 hc2 t0 t1
        go_wp2_with (first | rw [hdel] | (at_builtin; refine wpList_builtin_run rfl _ _ _ _ rfl rfl hdel ?_))
        exact ⟨⟨l2, c2, hD2H⟩, msH.out U' l2 c2 hD2H.out hc2H.out⟩
      · have hud : decide (d.u = u) = false := by simpa using hu
        obtain ⟨l2, hD2⟩ := h1 hu
        have hD2H := hidP hD2
        rw [hud]
        clear h1 h2 hF hUH tt bU hW4 hu hud hD2 t0 t1
        go_wp2_with fail
        exact ⟨⟨l2, cnt', hD2H⟩, msH.out U l2 cnt' hD2H.out hltH2.out⟩
end Go.Proofs.YtdcidlgmnnaahaaGreat
