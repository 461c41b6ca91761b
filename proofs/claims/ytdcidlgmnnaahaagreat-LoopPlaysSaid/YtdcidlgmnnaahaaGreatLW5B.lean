/- LoopPlays: the document's Set, its walk. -/
import Derived.Test.YtdcidlgmnnaahaaGreatBbf
namespace Go.Proofs.YtdcidlgmnnaahaaGreat
open Go.RowKit Go.Shelf Go.Lib
attribute [local go_sem] Oper.semAt_some
structure QC (W V : World) : Prop where
  b : Below W.heap.size W V
theorem beqB {a b : ByteArray} (h : a = b) : (a.toList == b.toList) = true := by rw [beqT]; simpa using h
theorem beqN {a b : ByteArray} (h : ¬ a = b) : (a.toList == b.toList) = false := by rw [beqT]; simpa using h
theorem setT_fin {W W0 X V : World} {rb : Nat} {E : Nat → Prop} {L : List Wt} {T : List Du} {k : TK} {a : Int} {A : List Du} {b : Bool} {v : Value} (h : Rl W rb E L T) (bw : Below W.heap.size W W0) (hO : SO W0 k a A b v X) {O : List Du} (hs : ∀ O', SI k a A b O' → O' = O) (hV : X.setCell ⟨rb, 1, none⟩ v = V) : Rgo W rb E L O V := by
  obtain ⟨O', h1, h2, h3, h4, h5⟩ := hO
  have e := hs O' h1
  subst e
  obtain ⟨E', g1, g2, g3⟩ := Rl.setT (h.mv (F := fun _ => False) (Mv.below bw) (fun _ _ f => f)) h4 h3 h5 hV
  exact ⟨E', g1, (Mv.below bw).trans' g2, Gr.mono bw.size g3⟩
set_option maxRecDepth 100000 in
set_option maxHeartbeats 8000000 in
theorem rset_any {W : World} {rb : Nat} {E : Nat → Prop} {L : List Wt} {T : List Du} (h : Rl W rb E L T) (hl : T.length ≤ 1000) (k : TK) (a : Int) :
    Calls Tryz.prog 11 #[.pointer (some ⟨rb, 0, none⟩), .string k.1.1, .string k.1.2, .int .i64 a] W fun e V => e = .returned (.tuple #[]) ∧ Rgo W rb E L (setP k a T) V := by
  obtain ⟨ku, hku⟩ : ∃ z, k.1.1 = z := ⟨_, rfl⟩
  obtain ⟨kw, hkw⟩ : ∃ z, k.1.2 = z := ⟨_, rfl⟩
  obtain ⟨N, hN⟩ : ∃ N, W.heap.size = N := ⟨_, rfl⟩
  obtain ⟨W0, hW0⟩ : ∃ W0, W.alloc (.cells #[.string ku, .string kw, .int .i64 a] 68) = W0 := ⟨_, rfl⟩
  have b0 : Below W.heap.size W W0 := by rw [← hW0]; exact (Below.refl _ _).alloc (Nat.le_refl _) _
  have bx : ∀ j v, #[Value.string ku, .string kw, .int .i64 a][j]? = some v → W0.cell? ⟨N, j, none⟩ = some v := fun j v hj => by rw [← hW0]; exact cell_at hN hj
  have hRH := hidP h
  have hR0 := hidP (h.mv (F := fun _ => False) (Mv.below b0) (fun _ _ f => f))
  have b0H := hidP b0
  obtain ⟨ve, vt, c0, c1, f0, f1, sl, st, n0, n1, n2, hE⟩ := (id hR0.out : Rl W0 rb E L T)
  obtain ⟨pv, cv, rfl⟩ := st.shape
  obtain ⟨m, hm⟩ : ∃ m, T.length = m := ⟨_, rfl⟩
  rw [hm] at c1 hl
  have hmI : (m : Int) ≤ 1000 := by omega
  have hmH := hidP hm
  have hstH := hidP st
  have hcs : Hid (W0.cell? ⟨rb, 1, none⟩ = some (.slice pv m cv) ∧ W0.frozen? ⟨rb, 1, none⟩ = false ∧ W0.cell? ⟨N, 0, none⟩ = some (.string ku) ∧ W0.cell? ⟨N, 1, none⟩ = some (.string kw) ∧ W0.cell? ⟨N, 2, none⟩ = some (.int .i64 a)) := ⟨c1, f1, bx 0 _ rfl, bx 1 _ rfl, bx 2 _ rfl⟩
  obtain ⟨b00, hb0⟩ : ∃ z, (a == (9223372036854775807 : Int)) = z := ⟨_, rfl⟩
  have hS0 : Hid (SO W0 k a (T.take 0) b00 (.slice none 0 0) W0) := by
    refine ⟨[], ?_, by simp, .inl ⟨rfl, rfl⟩, Below.refl _ _, fun j e => by cases e⟩
    unfold SI
    rw [← hb0]
    by_cases e : a = 9223372036854775807
    · rw [if_pos (by simpa using e), if_pos e]; rfl
    · rw [if_neg (by simpa using e)]; exact ⟨e, rfl, fun y hy => by cases hy⟩
  have hkk : Hid (∀ d : Du, d.k = k ↔ (d.u = ku ∧ d.w = kw)) := fun d => ⟨fun e => ⟨(congrArg (fun t : TK => t.1.1) e).trans hku, (congrArg (fun t : TK => t.1.2) e).trans hkw⟩, fun e => Subtype.ext (Prod.ext (e.1.trans hku.symm) (e.2.trans hkw.symm))⟩
  have hku' := hidP hku
  have hkw' := hidP hkw
  rw [hku, hkw]
  clear h hR0 b0 bx c0 f0 sl st n0 n1 n2 hE hm hku hkw f1
  go_enter Tryz.func11, Tryz.ntmps11
  go_wp2_with (rw [hW0])
  clear hb0 c1
  go_loopw [8, 10, 11] (fun o b i wr => ∃ (j : Nat) (bb : Bool) (p : Option Addr) (n c : Nat), j ≤ m ∧ i = .int .i64 j ∧ b = .bool bb ∧ o = .slice p n c ∧ Hid (SO W0 k a (T.take j) bb (.slice p n c) wr)) (fun _ _ i _ => m - (intOf i).toNat)
  case atStart => exact ⟨0, b00, none, 0, 0, Nat.zero_le _, rfl, rfl, rfl, hS0⟩
  case round =>
    obtain ⟨j, bb, p, n, c, hj, rfl, rfl, rfl, hO⟩ := hrel
    clear hS0
    have bw : Below W0.heap.size W0 wr := by
      obtain ⟨O, h1, h2, h3, h4, h5⟩ := hO.out
      exact h4
    have hcw : Hid (∀ V, Below wr.heap.size wr V → V.cell? ⟨rb, 1, none⟩ = some (.slice pv m cv) ∧ V.frozen? ⟨rb, 1, none⟩ = false ∧ V.cell? ⟨N, 0, none⟩ = some (.string ku) ∧ V.cell? ⟨N, 1, none⟩ = some (.string kw) ∧ V.cell? ⟨N, 2, none⟩ = some (.int .i64 a)) := fun V bV => by
      obtain ⟨q1, q2, q3, q4, q5⟩ := hcs.out
      have b := bw.trans (bV.mono bw.size)
      exact ⟨bcell b (cell_lt q1) q1, (bfroz b (cell_lt q1)).trans q2, bcell b (cell_lt q3) q3, bcell b (cell_lt q4) q4, bcell b (cell_lt q5) q5⟩
    obtain ⟨k1, kf, k2, k3, k4⟩ := hcw.out wr (Below.refl _ _)
    by_cases hlt : j < m
    · obtain ⟨x, hx⟩ : ∃ x, T[j]? = some x := ⟨_, List.getElem?_eq_getElem (by have := hmH.out; omega)⟩
      have stw := hstH.out.mv (F := fun _ => False) (Mv.below bw) (fun _ _ f => f)
      obtain ⟨g, o, cap, hgv, rs⟩ := stw.resolve_left (fun z => by rw [z.2] at hx; cases hx)
      injection hgv with e1 e2 e3
      subst e1
      subst e3
      clear e2
      obtain ⟨r0, r1, r2⟩ := rs.ra.at hx
      obtain ⟨xu, hxu⟩ : ∃ z, x.u = z := ⟨_, rfl⟩
      obtain ⟨xw, hxw⟩ : ∃ z, x.w = z := ⟨_, rfl⟩
      obtain ⟨xt, hxt⟩ : ∃ z, x.t = z := ⟨_, rfl⟩
      rw [hxu] at r0
      rw [hxw] at r1
      rw [hxt] at r2
      have hrw : Hid (∀ V, Below wr.heap.size wr V → V.cell? ⟨g, o + j * 3, none⟩ = some (.string xu) ∧ V.cell? ⟨g, o + j * 3 + 1, none⟩ = some (.string xw) ∧ V.cell? ⟨g, o + j * 3 + 2, none⟩ = some (.int .i64 xt)) := fun V bV => ⟨bcell bV (cell_lt r0) r0, bcell bV (cell_lt r1) r1, bcell bV (cell_lt r2) r2⟩
      have hjI : (j : Int) < (m : Int) := by omega
      have hjc : j < cv := by have := rs.le; have := hmH.out; omega
      have hxk := hkk.out x
      rw [hxu, hxw] at hxk
      have htk : T.take (j + 1) = T.take j ++ [x] := take_succ_get hx
      have htkH := hidP htk
      have htl : Hid ((T.take j).length ≤ 1000 ∧ (T.take (j + 1)).length = (T.take j).length + 1) := by
        have := hmH.out
        refine ⟨by rw [List.length_take]; omega, by rw [htk]; simp⟩
      have bN : Hid (∀ nq, Below wr.heap.size wr (wr.drewN nq)) := fun nq => ⟨rfl, rfl, rfl, Nat.le_refl _, fun _ _ => rfl⟩
      have hxH := hidP hx
      clear rs stw hx htk bw
      by_cases hu : xu = ku
      · have hub := beqB hu
        by_cases hw : xw = kw
        · have hwb := beqB hw
          have fin : Hid (SO W0 k a (T.take (j + 1)) bb (.slice p n c) wr) := by
            obtain ⟨O, h1, h2, h3⟩ := hO.out
            exact ⟨O, by rw [htkH.out]; exact h1.skip (hxk.2 ⟨hu, hw⟩), by have := htl.out; omega, h3⟩
          clear hxu hxw hxt hxk hu hw hO
          go_wp2_with fail
          go_roundw
          case rel => exact ⟨j + 1, bb, p, n, c, by omega, by go_num, rfl, rfl, fin⟩
          case measure => simp [intOf]; omega
        · have hwb := beqN hw
          have hnk : Hid (¬ x.k = k) := fun e => hw (hxk.1 e).2
          cases bb with
          | true =>
            obtain ⟨B, hB⟩ : ∃ B, wr.heap.size = B := ⟨_, rfl⟩
            have hg : Hid (∀ nq, ∃ p3 n3 c3 W', (Builtin.append_ #[28, 28] 28 #[.slice p n c, .slice (some ⟨B, 0, none⟩) 1 1]).run Tryz.prog ((wr.drewN nq).alloc (.cells #[.string xu, .string xw, .int .i64 xt] 68)) = .ok (.slice p3 n3 c3) W' ∧ SO W0 k a (T.take (j + 1)) true (.slice p3 n3 c3) W') := fun nq => by
              obtain ⟨p', n', c', W', g1, g2⟩ := (hO.out.below (bN.out nq)).grow (A' := T.take (j + 1)) (b' := true) (B := B) (by have := htl.out; omega) x (fun O hs => by rw [htkH.out]; exact hs.on hnk.out) htl.out.2 hB
              rw [hxu, hxw, hxt] at g1
              exact ⟨p', n', c', W', g1, g2⟩
            have k1N : ∀ nq, (wr.drewN nq).cell? ⟨rb, 1, none⟩ = some (.slice (some ⟨g, o, none⟩) m cv) := fun nq => k1
            have r0N : ∀ nq, (wr.drewN nq).cell? ⟨g, o + j * 3, none⟩ = some (.string xu) := fun nq => r0
            have r1N : ∀ nq, (wr.drewN nq).cell? ⟨g, o + j * 3 + 1, none⟩ = some (.string xw) := fun nq => r1
            have r2N : ∀ nq, (wr.drewN nq).cell? ⟨g, o + j * 3 + 2, none⟩ = some (.int .i64 xt) := fun nq => r2
            clear hxu hxw hxt hxk hw hu hO hcw hrw
            go_wp2_with fail
            go_quiet (fail)
            obtain ⟨p', n', c', W', g1, g2⟩ := hg.out nq
            have fin := hidP g2
            have aB : (wr.drewN nq).heap.size = B := hB
            have k1' := k1N nq
            have r0' := r0N nq
            have r1' := r1N nq
            have r2' := r2N nq
            obtain ⟨Y, hY⟩ : ∃ Y, wr.drewN nq = Y := ⟨_, rfl⟩
            rw [hY] at g1 aB k1' r0' r1' r2' ⊢
            obtain ⟨A, hA⟩ : ∃ A, Y.alloc (.cells #[.string xu, .string xw, .int .i64 xt] 68) = A := ⟨_, rfl⟩
            rw [hA] at g1
            clear hY
            clear hg g2 hB k1N r0N r1N r2N k1 k2 k3 k4 kf r0 r1 r2
            go_wp2_with (first | rw [hA] | (at_builtin; refine wpList_append_run rfl _ _ 28 rfl _ _ _ _ rfl rfl g1 ?_))
            go_roundw
            case rel => exact ⟨j + 1, true, p', n', c', by omega, by go_num, rfl, rfl, fin⟩
            case measure => simp [intOf]; omega
          | false =>
            obtain ⟨r, hr⟩ : ∃ r, decide (keyD (mkD k a) < keyD x) = r := ⟨_, rfl⟩
            have hAh : Hid (∀ W', QC wr W' → Calls Tryz.prog 29 #[.agg #[.string ku, .string kw, .int .i64 a], .agg #[.string xu, .string xw, .int .i64 xt]] W' fun e V => e = .returned (.bool r) ∧ QC wr V) := fun W' hq => by
              have := rahead_any (mkD k a) x W'
              rw [hr, hxu, hxw, hxt] at this
              rw [← hku'.out, ← hkw'.out]
              exact this.mono fun e V z => ⟨z.1, ⟨hq.b.trans (z.2.mono hq.b.size)⟩⟩
            have hC0 : Hid (QC wr { wr with drawn := wr.drawn + 1 }) := ⟨(Below.refl _ wr).drew⟩
            have hF1 : Hid (∀ w', QC wr w' → w'.cell? ⟨rb, 1, none⟩ = some (.slice (some ⟨g, o, none⟩) m cv)) := fun w' hq => (hcw.out w' hq.b).1
            have hF2 : Hid (∀ w', QC wr w' → w'.cell? ⟨N, 0, none⟩ = some (.string ku) ∧ w'.cell? ⟨N, 1, none⟩ = some (.string kw) ∧ w'.cell? ⟨N, 2, none⟩ = some (.int .i64 a)) := fun w' hq => (hcw.out w' hq.b).2.2
            have hF3 : Hid (∀ w', QC wr w' → w'.cell? ⟨g, o + j * 3, none⟩ = some (.string xu) ∧ w'.cell? ⟨g, o + j * 3 + 1, none⟩ = some (.string xw) ∧ w'.cell? ⟨g, o + j * 3 + 2, none⟩ = some (.int .i64 xt)) := fun w' hq => hrw.out w' hq.b
            have hOn : Hid (∀ V, QC wr V → SO W0 k a (T.take j) false (.slice p n c) V) := fun V hq => hO.out.below hq.b
            have hxuH := hidP hxu
            have hxwH := hidP hxw
            have hxtH := hidP hxt
            have hrH := hidP hr
            clear hxu hxw hxt hxk hw hu hO hcw hrw hr
            go_upto_region 7 with fail
            have hconst : ∀ p : Prop, (∀ w', QC wr w' → p) = p := fun p => propext ⟨fun h => h _ hC0.out, fun h _ _ => h⟩
            refine region_WQ (C := QC wr) (by kernel_rfl) (by kernel_rfl) hC0.out ?_
            iterate 3 (refine WQ_step (fun K hK => ?_); simp only [SQ_eq]; go_simp; refine hK _ ?_; clear hK K)
            refine WQ_step (fun K hK => ?_); simp only [SQ_eq]; go_simp; refine Exists.intro (.agg #[.string ku, .string kw, .int .i64 a]) (And.intro (fun w' hw => (by obtain ⟨h1, h2, h3⟩ := hF2.out w' hw; simp [h1, h2, h3])) ?_); go_simp; refine hK _ ?_; clear hK K
            iterate 3 (refine WQ_step (fun K hK => ?_); simp only [SQ_eq]; go_simp; refine hK _ ?_; clear hK K)
            refine WQ_step (fun K hK => ?_); simp only [SQ_eq]; go_simp; refine Exists.intro (.slice (some ⟨g, o, none⟩) m cv) (And.intro (fun w' hw => (by have h := hF1.out w' hw; simp [h])) ?_); go_simp; refine hK _ ?_; clear hK K
            iterate 2 (refine WQ_step (fun K hK => ?_); simp only [SQ_eq]; go_simp; refine hK _ ?_; clear hK K)
            refine WQ_step (fun K hK => ?_); simp only [SQ_eq]; go_simp; refine Exists.intro (.agg #[.string xu, .string xw, .int .i64 xt]) (And.intro (fun w' hw => (by obtain ⟨h1, h2, h3⟩ := hF3.out w' hw; simp [h1, h2, h3])) ?_); go_simp; refine hK _ ?_; clear hK K
            refine WQ_step (fun K hK => ?_); simp only [SQ_eq]; go_simp; refine Exists.intro (.bool r) (And.intro (fun w' hw => hAh.out w' hw) ?_); go_simp; refine hK _ ?_; clear hK K
            refine WQ_step (fun K hK => ?_); simp only [SQ_eq]; go_simp; refine hK _ ?_; clear hK K
            refine WQ_nil (fun Y hY => ?_)
            have hOY := hOn.out Y hY
            have y1 := hF1.out Y hY
            obtain ⟨y2, y3, y4⟩ := hF2.out Y hY
            obtain ⟨z0, z1, z2⟩ := hF3.out Y hY
            clear hAh hC0 hOn hconst k1 k2 k3 k4 kf r0 r1 r2
            obtain ⟨B, hB⟩ : ∃ B, Y.heap.size = B := ⟨_, rfl⟩
            cases r with
            | true =>
              obtain ⟨p1, n1, c1, W1, g1, b1, g2⟩ := hOY.two (B := B) (by have := htl.out; omega) hnk.out (of_decide_eq_true hrH.out) hB
              rw [hku'.out, hkw'.out] at g1
              obtain ⟨B1, hB1⟩ : ∃ B1, W1.heap.size = B1 := ⟨_, rfl⟩
              obtain ⟨p2, n2, c2, W2, g3, g4⟩ := g2 B1 hB1
              rw [hxuH.out, hxwH.out, hxtH.out] at g3
              rw [← htkH.out] at g4
              have fin := hidP g4
              obtain ⟨A, hA⟩ : ∃ A, Y.alloc (.cells #[.string ku, .string kw, .int .i64 a] 68) = A := ⟨_, rfl⟩
              rw [hA] at g1
              obtain ⟨A1, hA1⟩ : ∃ A1, W1.alloc (.cells #[.string xu, .string xw, .int .i64 xt] 68) = A1 := ⟨_, rfl⟩
              rw [hA1] at g3
              obtain ⟨q1, _⟩ := hcs.out
              have d1 : W1.cell? ⟨rb, 1, none⟩ = some (.slice (some ⟨g, o, none⟩) m cv) := bcell b1 (cell_lt q1) q1
              obtain ⟨g', o', cap', hgv', rs'⟩ := (hstH.out.mv (F := fun _ => False) (Mv.below b1) (fun _ _ f => f)).resolve_left (fun z => by have := hxH.out; rw [z.2] at this; cases this)
              simp only [Value.slice.injEq, Option.some.injEq, Addr.mk.injEq, and_true] at hgv'
              obtain ⟨⟨rfl, rfl⟩, _, _⟩ := hgv'
              obtain ⟨d3, d4, d5⟩ := rs'.ra.at hxH.out
              rw [hxuH.out] at d3
              rw [hxwH.out] at d4
              rw [hxtH.out] at d5
              clear rs' q1 b1
              clear hOY g2 g4 hF1 hF2 hF3 hY
              go_upto_region 10 with (first | rw [hA] | (at_builtin; refine wpList_append_run rfl _ _ 28 rfl _ _ _ _ rfl rfl g1 ?_))
              go_wp2_with (first | rw [hA1] | (at_builtin; refine wpList_append_run rfl _ _ 28 rfl _ _ _ _ rfl rfl g3 ?_))
              go_roundw
              case rel => exact ⟨j + 1, true, p2, n2, c2, by omega, by go_num, rfl, rfl, fin⟩
              case measure => simp [intOf]; omega
            | false =>
              obtain ⟨p1, n1, c1, W1, g1, g2⟩ := hOY.grow (A' := T.take (j + 1)) (b' := false) (B := B) (by have := htl.out; omega) x (fun O hs => by rw [htkH.out]; exact hs.stay hnk.out (of_decide_eq_false hrH.out)) htl.out.2 hB
              rw [hxuH.out, hxwH.out, hxtH.out] at g1
              have fin := hidP g2
              obtain ⟨A, hA⟩ : ∃ A, Y.alloc (.cells #[.string xu, .string xw, .int .i64 xt] 68) = A := ⟨_, rfl⟩
              rw [hA] at g1
              clear hOY g2 hF1 hF2 hF3 hY
              go_wp2_with (first | rw [hA] | (at_builtin; refine wpList_append_run rfl _ _ 28 rfl _ _ _ _ rfl rfl g1 ?_))
              go_roundw
              case rel => exact ⟨j + 1, false, p1, n1, c1, by omega, by go_num, rfl, rfl, fin⟩
              case measure => simp [intOf]; omega
      · have hub := beqN hu
        have hnk : Hid (¬ x.k = k) := fun e => hu (hxk.1 e).1
        cases bb with
        | true =>
          obtain ⟨B, hB⟩ : ∃ B, wr.heap.size = B := ⟨_, rfl⟩
          have hg : Hid (∀ nq, ∃ p3 n3 c3 W', (Builtin.append_ #[28, 28] 28 #[.slice p n c, .slice (some ⟨B, 0, none⟩) 1 1]).run Tryz.prog ((wr.drewN nq).alloc (.cells #[.string xu, .string xw, .int .i64 xt] 68)) = .ok (.slice p3 n3 c3) W' ∧ SO W0 k a (T.take (j + 1)) true (.slice p3 n3 c3) W') := fun nq => by
            obtain ⟨p', n', c', W', g1, g2⟩ := (hO.out.below (bN.out nq)).grow (A' := T.take (j + 1)) (b' := true) (B := B) (by have := htl.out; omega) x (fun O hs => by rw [htkH.out]; exact hs.on hnk.out) htl.out.2 hB
            rw [hxu, hxw, hxt] at g1
            exact ⟨p', n', c', W', g1, g2⟩
          have k1N : ∀ nq, (wr.drewN nq).cell? ⟨rb, 1, none⟩ = some (.slice (some ⟨g, o, none⟩) m cv) := fun nq => k1
          have r0N : ∀ nq, (wr.drewN nq).cell? ⟨g, o + j * 3, none⟩ = some (.string xu) := fun nq => r0
          have r1N : ∀ nq, (wr.drewN nq).cell? ⟨g, o + j * 3 + 1, none⟩ = some (.string xw) := fun nq => r1
          have r2N : ∀ nq, (wr.drewN nq).cell? ⟨g, o + j * 3 + 2, none⟩ = some (.int .i64 xt) := fun nq => r2
          clear hxu hxw hxt hxk hu hO hcw hrw
          go_wp2_with fail
          go_quiet (fail)
          obtain ⟨p', n', c', W', g1, g2⟩ := hg.out nq
          have fin := hidP g2
          have aB : (wr.drewN nq).heap.size = B := hB
          have k1' := k1N nq
          have r0' := r0N nq
          have r1' := r1N nq
          have r2' := r2N nq
          obtain ⟨Y, hY⟩ : ∃ Y, wr.drewN nq = Y := ⟨_, rfl⟩
          rw [hY] at g1 aB k1' r0' r1' r2' ⊢
          obtain ⟨A, hA⟩ : ∃ A, Y.alloc (.cells #[.string xu, .string xw, .int .i64 xt] 68) = A := ⟨_, rfl⟩
          rw [hA] at g1
          clear hY
          clear hg g2 hB k1N r0N r1N r2N k1 k2 k3 k4 kf r0 r1 r2
          go_wp2_with (first | rw [hA] | (at_builtin; refine wpList_append_run rfl _ _ 28 rfl _ _ _ _ rfl rfl g1 ?_))
          go_roundw
          case rel => exact ⟨j + 1, true, p', n', c', by omega, by go_num, rfl, rfl, fin⟩
          case measure => simp [intOf]; omega
        | false =>
          obtain ⟨r, hr⟩ : ∃ r, decide (keyD (mkD k a) < keyD x) = r := ⟨_, rfl⟩
          have hAh : Hid (∀ W', QC wr W' → Calls Tryz.prog 29 #[.agg #[.string ku, .string kw, .int .i64 a], .agg #[.string xu, .string xw, .int .i64 xt]] W' fun e V => e = .returned (.bool r) ∧ QC wr V) := fun W' hq => by
            have := rahead_any (mkD k a) x W'
            rw [hr, hxu, hxw, hxt] at this
            rw [← hku'.out, ← hkw'.out]
            exact this.mono fun e V z => ⟨z.1, ⟨hq.b.trans (z.2.mono hq.b.size)⟩⟩
          have hC0 : Hid (QC wr { wr with drawn := wr.drawn + 1 }) := ⟨(Below.refl _ wr).drew⟩
          have hF1 : Hid (∀ w', QC wr w' → w'.cell? ⟨rb, 1, none⟩ = some (.slice (some ⟨g, o, none⟩) m cv)) := fun w' hq => (hcw.out w' hq.b).1
          have hF2 : Hid (∀ w', QC wr w' → w'.cell? ⟨N, 0, none⟩ = some (.string ku) ∧ w'.cell? ⟨N, 1, none⟩ = some (.string kw) ∧ w'.cell? ⟨N, 2, none⟩ = some (.int .i64 a)) := fun w' hq => (hcw.out w' hq.b).2.2
          have hF3 : Hid (∀ w', QC wr w' → w'.cell? ⟨g, o + j * 3, none⟩ = some (.string xu) ∧ w'.cell? ⟨g, o + j * 3 + 1, none⟩ = some (.string xw) ∧ w'.cell? ⟨g, o + j * 3 + 2, none⟩ = some (.int .i64 xt)) := fun w' hq => hrw.out w' hq.b
          have hOn : Hid (∀ V, QC wr V → SO W0 k a (T.take j) false (.slice p n c) V) := fun V hq => hO.out.below hq.b
          have hxuH := hidP hxu
          have hxwH := hidP hxw
          have hxtH := hidP hxt
          have hrH := hidP hr
          clear hxu hxw hxt hxk hu hO hcw hrw hr
          go_upto_region 7 with fail
          have hconst : ∀ p : Prop, (∀ w', QC wr w' → p) = p := fun p => propext ⟨fun h => h _ hC0.out, fun h _ _ => h⟩
          refine region_WQ (C := QC wr) (by kernel_rfl) (by kernel_rfl) hC0.out ?_
          iterate 3 (refine WQ_step (fun K hK => ?_); simp only [SQ_eq]; go_simp; refine hK _ ?_; clear hK K)
          refine WQ_step (fun K hK => ?_); simp only [SQ_eq]; go_simp; refine Exists.intro (.agg #[.string ku, .string kw, .int .i64 a]) (And.intro (fun w' hw => (by obtain ⟨h1, h2, h3⟩ := hF2.out w' hw; simp [h1, h2, h3])) ?_); go_simp; refine hK _ ?_; clear hK K
          iterate 3 (refine WQ_step (fun K hK => ?_); simp only [SQ_eq]; go_simp; refine hK _ ?_; clear hK K)
          refine WQ_step (fun K hK => ?_); simp only [SQ_eq]; go_simp; refine Exists.intro (.slice (some ⟨g, o, none⟩) m cv) (And.intro (fun w' hw => (by have h := hF1.out w' hw; simp [h])) ?_); go_simp; refine hK _ ?_; clear hK K
          iterate 2 (refine WQ_step (fun K hK => ?_); simp only [SQ_eq]; go_simp; refine hK _ ?_; clear hK K)
          refine WQ_step (fun K hK => ?_); simp only [SQ_eq]; go_simp; refine Exists.intro (.agg #[.string xu, .string xw, .int .i64 xt]) (And.intro (fun w' hw => (by obtain ⟨h1, h2, h3⟩ := hF3.out w' hw; simp [h1, h2, h3])) ?_); go_simp; refine hK _ ?_; clear hK K
          refine WQ_step (fun K hK => ?_); simp only [SQ_eq]; go_simp; refine Exists.intro (.bool r) (And.intro (fun w' hw => hAh.out w' hw) ?_); go_simp; refine hK _ ?_; clear hK K
          refine WQ_step (fun K hK => ?_); simp only [SQ_eq]; go_simp; refine hK _ ?_; clear hK K
          refine WQ_nil (fun Y hY => ?_)
          have hOY := hOn.out Y hY
          have y1 := hF1.out Y hY
          obtain ⟨y2, y3, y4⟩ := hF2.out Y hY
          obtain ⟨z0, z1, z2⟩ := hF3.out Y hY
          clear hAh hC0 hOn hconst k1 k2 k3 k4 kf r0 r1 r2
          obtain ⟨B, hB⟩ : ∃ B, Y.heap.size = B := ⟨_, rfl⟩
          cases r with
          | true =>
            obtain ⟨p1, n1, c1, W1, g1, b1, g2⟩ := hOY.two (B := B) (by have := htl.out; omega) hnk.out (of_decide_eq_true hrH.out) hB
            rw [hku'.out, hkw'.out] at g1
            obtain ⟨B1, hB1⟩ : ∃ B1, W1.heap.size = B1 := ⟨_, rfl⟩
            obtain ⟨p2, n2, c2, W2, g3, g4⟩ := g2 B1 hB1
            rw [hxuH.out, hxwH.out, hxtH.out] at g3
            rw [← htkH.out] at g4
            have fin := hidP g4
            obtain ⟨A, hA⟩ : ∃ A, Y.alloc (.cells #[.string ku, .string kw, .int .i64 a] 68) = A := ⟨_, rfl⟩
            rw [hA] at g1
            obtain ⟨A1, hA1⟩ : ∃ A1, W1.alloc (.cells #[.string xu, .string xw, .int .i64 xt] 68) = A1 := ⟨_, rfl⟩
            rw [hA1] at g3
            obtain ⟨q1, _⟩ := hcs.out
            have d1 : W1.cell? ⟨rb, 1, none⟩ = some (.slice (some ⟨g, o, none⟩) m cv) := bcell b1 (cell_lt q1) q1
            obtain ⟨g', o', cap', hgv', rs'⟩ := (hstH.out.mv (F := fun _ => False) (Mv.below b1) (fun _ _ f => f)).resolve_left (fun z => by have := hxH.out; rw [z.2] at this; cases this)
            simp only [Value.slice.injEq, Option.some.injEq, Addr.mk.injEq, and_true] at hgv'
            obtain ⟨⟨rfl, rfl⟩, _, _⟩ := hgv'
            obtain ⟨d3, d4, d5⟩ := rs'.ra.at hxH.out
            rw [hxuH.out] at d3
            rw [hxwH.out] at d4
            rw [hxtH.out] at d5
            clear rs' q1 b1
            clear hOY g2 g4 hF1 hF2 hF3 hY
            go_upto_region 10 with (first | rw [hA] | (at_builtin; refine wpList_append_run rfl _ _ 28 rfl _ _ _ _ rfl rfl g1 ?_))
            go_wp2_with (first | rw [hA1] | (at_builtin; refine wpList_append_run rfl _ _ 28 rfl _ _ _ _ rfl rfl g3 ?_))
            go_roundw
            case rel => exact ⟨j + 1, true, p2, n2, c2, by omega, by go_num, rfl, rfl, fin⟩
            case measure => simp [intOf]; omega
          | false =>
            obtain ⟨p1, n1, c1, W1, g1, g2⟩ := hOY.grow (A' := T.take (j + 1)) (b' := false) (B := B) (by have := htl.out; omega) x (fun O hs => by rw [htkH.out]; exact hs.stay hnk.out (of_decide_eq_false hrH.out)) htl.out.2 hB
            rw [hxuH.out, hxwH.out, hxtH.out] at g1
            have fin := hidP g2
            obtain ⟨A, hA⟩ : ∃ A, Y.alloc (.cells #[.string xu, .string xw, .int .i64 xt] 68) = A := ⟨_, rfl⟩
            rw [hA] at g1
            clear hOY g2 hF1 hF2 hF3 hY
            go_wp2_with (first | rw [hA] | (at_builtin; refine wpList_append_run rfl _ _ 28 rfl _ _ _ _ rfl rfl g1 ?_))
            go_roundw
            case rel => exact ⟨j + 1, false, p1, n1, c1, by omega, by go_num, rfl, rfl, fin⟩
            case measure => simp [intOf]; omega
    · obtain rfl : j = m := by omega
      have htk : T.take j = T := List.take_of_length_le (by have := hmH.out; omega)
      have hjI : ¬ (j : Int) < (j : Int) := by omega
      have hjd : decide ((j : Int) < (j : Int)) = false := decide_eq_false hjI
      rw [htk] at hO
      cases bb with
      | true =>
        obtain ⟨V, hV⟩ : ∃ V, wr.setCell ⟨rb, 1, none⟩ (.slice p n c) = V := ⟨_, rfl⟩
        have fin : Hid (Rgo W rb E L (setP k a T) V) := setT_fin hRH.out b0H.out hO.out (fun O' h => h.done) hV
        clear hO htk bw k2 k3 k4
        go_wp2_with (rw [hV])
        go_end0
        exact ⟨rfl, fin.out⟩
      | false =>
        obtain ⟨B, hB⟩ : ∃ B, wr.heap.size = B := ⟨_, rfl⟩
        obtain ⟨A, hA⟩ : ∃ A, wr.alloc (.cells #[.string ku, .string kw, .int .i64 a] 68) = A := ⟨_, rfl⟩
        obtain ⟨O, h1, h2, h3, h4, h5⟩ := hO.out
        obtain ⟨v', X, hr, sv, mv, at2⟩ := h3.push (mkD k a) (by have := hmH.out; omega) hB
        have hr' : (Builtin.append_ #[28, 28] 28 #[.slice p n c, .slice (some ⟨B, 0, none⟩) 1 1]).run Tryz.prog A = .ok v' X := by rw [← hA, ← hku'.out, ← hkw'.out]; exact hr
        obtain ⟨p2, c2, rfl⟩ := sv.shape
        obtain ⟨n2, hn2⟩ : ∃ n2, (O ++ [mkD k a]).length = n2 := ⟨_, rfl⟩
        obtain ⟨V, hV⟩ : ∃ V, X.setCell ⟨rb, 1, none⟩ (.slice p2 n2 c2) = V := ⟨_, rfl⟩
        have bX : Below W0.heap.size W0 X := h4.trans (mv.toBelow h4.size fun j hj e => by have := h5 j e; omega)
        have nX : ∀ j, Qd.nbk (.slice p2 n2 c2) = some j → W0.heap.size ≤ j := fun j e => by
          rw [← hn2] at e
          rcases at2 with z | ⟨j', z, hj⟩
          · exact h5 j (z ▸ e)
          · rw [e] at z; injection z with z; have := h4.size; omega
        obtain ⟨q1, q2, _⟩ := hcs.out
        have x1 : X.cell? ⟨rb, 1, none⟩ = some (.slice pv j cv) := bcell bX (cell_lt q1) q1
        have x2 : X.frozen? ⟨rb, 1, none⟩ = false := (bfroz bX (cell_lt q1)).trans q2
        rw [hn2] at sv hr'
        have fin : Hid (Rgo W rb E L (setP k a T) V) := by
          obtain ⟨E', g1, g2, g3⟩ := Rl.setT (hRH.out.mv (F := fun _ => False) (Mv.below b0H.out) (fun _ _ f => f)) bX sv nX hV
          rw [h1.last] at g1
          exact ⟨E', g1, (Mv.below b0H.out).trans' g2, Gr.mono b0H.out.size g3⟩
        clear hO htk bw h1 h2 h3 h4 h5 hr sv mv at2 hn2 bX nX q1 q2
        go_wp2_with (first | rw [hA] | rw [hV] | (at_builtin; refine wpList_append_run rfl _ _ 28 rfl _ _ _ _ rfl rfl hr' ?_))
        go_end0
        exact ⟨rfl, fin.out⟩
end Go.Proofs.YtdcidlgmnnaahaaGreat
