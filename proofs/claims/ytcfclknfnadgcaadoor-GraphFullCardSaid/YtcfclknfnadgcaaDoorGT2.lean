/- What a unit tells of, as a row: graph.told$1. -/
import Derived.Test.YtcfclknfnadgcaaDoorGT1
import Derived.Test.YtcfclknfnadgcaaDoorGRq
namespace Go.Proofs.YtcfclknfnadgcaaDoor
open Go.RowKit Go.Shelf Go.Lib
attribute [local go_sem] Oper.semAt_some
theorem isN_eq (s : ByteArray) : (Nam.cutN s.data.toList).isSome = isN s := rfl
set_option maxRecDepth 100000 in
set_option maxHeartbeats 8000000 in
theorem told_row (n : Nat) (vs : Array Value) (u : Un) (E : Nat → Prop) (W : World) (hrel : ∀ w, UV w vs u → Calls Tryd.prog 44 #[.agg vs] w (RelsEnd w vs (relsU u))) (hu : UV W vs u) (hb : Ub n vs W) (en : ¬ E n) (eu : ∀ b, ubk vs b → ¬ E b) (hg : GlN W) (e0 : ¬ E 0) (e1 : ¬ E 1) (hsz : ∀ r ∈ relsU u, ∀ s ∈ r.2.2, s.size ≤ 2000000) :
    Row Tryd.prog 43 #[.pointer (some ⟨n, 0, none⟩)] encE (tolU u) E W := by
  intro q J Jx E1 V m g hJ hJx hY h0
  have ln : n < W.heap.size := cell_lt (hb 0 _ hu.c0)
  have f1 : ¬ E1 n := g.free ln en
  have fu : ∀ b, ubk vs b → ¬ E1 b := fun b hb => g.free (hu.lt hb) (eu b hb)
  have g0 : ¬ E1 0 := g.free hg.lt.1 e0
  have g1 : ¬ E1 1 := g.free hg.lt.2 e1
  have hu1 := hu.mv m eu
  have hb1 := hb.mv m en
  have hg1 := hg.mv m e0 e1
  have lnV : n < V.heap.size := Nat.lt_of_lt_of_le ln m.size
  have hld := hb1.load hu1.sz
  have hcall := hrel V hu1
  have hlow : Hid (∀ k, E1 k → k < V.heap.size) := fun k hk => hJ.low _ _ _ h0 k hk
  have huH := hidP hu1
  have hbH := hidP hb1
  have hgH := hidP hg1
  have fuH := hidP fu
  clear hrel hu hb hg en eu e0 e1 m g hu1 hb1 hg1 fu
  refine (callsIn_wide (n := 5)).1 ?_
  refine callsIn_of_wp Tryd.func43 rfl trivial ?_ rfl
  simp only [Tryd.ntmps43, List.size_toArray, List.length_cons, List.length_nil, Nat.reduceAdd, Nat.reduceSub, Array.replicate_succ, Array.replicate_zero, List.push_toArray, List.append_toArray, List.nil_append, List.cons_append]
  gi_wp2_with (refine wpListIn_loadU rfl _ rfl _ rfl _ hld ?_)
  refine ⟨trivial, (callsIn_wide.2 hcall).mono ?_⟩
  rintro e V1 ⟨gr, o, c, l, rfl, hrs, hrl, hgr, hbk, hbV⟩
  obtain ⟨L, hL⟩ : ∃ L, l.length = L := ⟨_, rfl⟩
  unfold Rw.slv
  rw [hL]
  have hLH := hidP hL
  have hlowH := hidP (show ∀ k, E1 k → k < V1.heap.size from fun k hk => Nat.lt_of_lt_of_le (hlow.out k hk) hbV.size)
  have hbVH := hidP hbV
  have hrsH := hidP hrs
  have hrlH := hidP hrl
  have hbkH := hidP hbk
  have hgrH := hidP hgr
  have hge : Hid (¬ E1 gr) := fun e => by have := hlow.out gr e; omega
  have hlowV := hidP hlow.out
  have hN : Hid ((relsU u).length = L) := by show _ = _; rw [← hrl.len]; exact hL
  have hLs : L ≤ 1000 := by
    have h1 := hN.out
    have h2 : (relsU u).length ≤ 20 := by
      unfold relsU rels7 relsT relsD
      simp only [List.length_append]
      split <;> split <;> (try split) <;> simp
    omega
  have hJ1 : Hid (J (tolU u) E1 V1) := hJ.keep _ _ _ _ h0 (Mv.below hbV)
  clear hL hbV hrs hrl hbk hgr hlow h0 hcall hld
  gi_wp2_with fail
  gi_loopw [10] (fun i wr => ∃ (k : Nat) (E2 : Nat → Prop), k ≤ L ∧ i = .int .i64 k ∧ Hid (J (((relsU u).drop k).flatMap (edR u.nm)) E2 wr) ∧ Hid (Mv E1 V1 wr) ∧ Hid (Gr E1 V1 E2)) (fun i _ => L - (intOf i).toNat)
  case atStart => exact ⟨0, E1, by omega, rfl, hJ1, Mv.refl _ _, Gr.refl _ _⟩
  case round =>
    obtain ⟨k, E2, hk, rfl, hj, hm, hg⟩ := hrel
    obtain ⟨wk, hwk⟩ : ∃ wk, wk = wr := ⟨_, rfl⟩
    subst hwk
    by_cases hlt : k < L
    · obtain ⟨x, hx⟩ : ∃ x, l[k]? = some x := ⟨_, List.getElem?_eq_getElem (by rw [hLH.out]; omega)⟩
      obtain ⟨⟨rk, rt, rn⟩, hr, hxk, hxt, hnr⟩ := hrlH.out.at hx
      have hRr : Rw.RA wk gr o l := fun j v hjv => hm.out.cell (a := ⟨gr, o + j, none⟩) hge.out (hrsH.out.ra j v hjv)
      obtain ⟨c0, c1, c2⟩ := hRr.at hx
      obtain ⟨xk, xt, xp, xn, xc⟩ := x
      dsimp only at hxk hxt hnr c0 c1 c2
      subst hxk
      subst hxt
      obtain rfl : xn = rn.length := by
        obtain ⟨p', c', e⟩ := hnr.shape
        unfold rsl at e
        injection e
      have hrnl : rn.length ≤ 1000000 := by
        rcases hnr with ⟨rfl, _⟩ | ⟨b, o', c', e, _, h2, _⟩
        · simp
        · exact h2
      have hname : Hid (∀ (j : Nat) (s : ByteArray), rn[j]? = some s → ∃ b o', xp = some ⟨b, o', none⟩ ∧ ¬ E1 b ∧ V1.cell? ⟨b, o' + j, none⟩ = some (.string s)) := by
        intro j s hs
        rcases hnr with ⟨rfl, _⟩ | ⟨b, o', c', e, h1, _, h3⟩
        · cases hs
        · unfold rsl at e
          injection e with e1 e2 e3
          subst e1
          refine ⟨b, o', rfl, fun eb => ?_, h3 j s hs⟩
          have hrb : rbk (rsl ⟨xk, xt, some ⟨b, o', none⟩, rn.length, xc⟩) = some b := by
            unfold rsl rbk
            simp [h1]
          rcases (hbkH.out _ (List.mem_of_getElem? hx) b hrb).1 with q | q
          · exact fuH.out b q eb
          · have := hlowV.out b eb; omega
      have hdr : (relsU u).drop k = (xk, xt, rn) :: (relsU u).drop (k + 1) := by
        obtain ⟨h1, h2⟩ := List.getElem?_eq_some_iff.1 hr
        rw [List.drop_eq_getElem_cons h1, h2]
      have hsr : Hid (∀ s ∈ rn, s.size ≤ 2000000) := fun s hs => hsz _ (List.mem_of_getElem? hr) s hs
      obtain ⟨R, hR⟩ : ∃ R, ((relsU u).drop (k + 1)).flatMap (edR u.nm) = R := ⟨_, rfl⟩
      have hj' := hj.out
      rw [hdr, List.flatMap_cons, hR] at hj'
      have hRH := hidP hR
      have hltI : (k : Int) < (L : Int) := by omega
      obtain ⟨WA, hWA⟩ : ∃ WA, wk.alloc (.cells #[.int .i64 xk, .bool xt, .slice xp rn.length xc] 88) = WA := ⟨_, rfl⟩
      have bWA : Below wk.heap.size wk WA := by rw [← hWA]; exact (Below.refl _ _).alloc (Nat.le_refl _) _
      have sWA : WA.heap.size = wk.heap.size + 1 := by rw [← hWA]; simp
      have hjA : Hid (J (edR u.nm (xk, xt, rn) ++ R) E2 WA) := hJ.keep _ _ _ _ hj' (Mv.below bWA)
      have hbox : Hid (WA.cell? ⟨wk.heap.size, 0, none⟩ = some (.int .i64 xk) ∧ WA.cell? ⟨wk.heap.size, 1, none⟩ = some (.bool xt) ∧ WA.cell? ⟨wk.heap.size, 2, none⟩ = some (.slice xp rn.length xc)) := by
        rw [← hWA]; exact ⟨cell_at rfl rfl, cell_at rfl rfl, cell_at rfl rfl⟩
      have hE2b : Hid (¬ E2 wk.heap.size) := fun e => by have := hJ.low _ _ _ hj' _ e; omega
      have bWAH := hidP bWA
      have hmA : Hid (Mv E1 V1 WA) := hm.out.trans hg.out (Mv.below bWA)
      have z2 := hbox.out.2.2
      clear hx hr hnr hRr hdr hj' hR bWA
      gi_wp2_with (rw [hWA])
      gi_loopw [17] (fun i wr => ∃ (j : Nat) (E3 : Nat → Prop), j ≤ rn.length ∧ i = .int .i64 j ∧ Hid (J (edR u.nm (xk, xt, rn.drop j) ++ R) E3 wr) ∧ Hid (Mv E2 WA wr) ∧ Hid (Gr E2 WA E3)) (fun i _ => rn.length - (intOf i).toNat)
      case atStart => exact ⟨0, E2, by omega, rfl, hjA, Mv.refl _ _, Gr.refl _ _⟩
      case round =>
        obtain ⟨j, E3, hjl, rfl, hj3, hm3, hg3⟩ := hrel
        have hmW : Mv E1 V1 wr := hmA.out.trans hg.out hm3.out
        have y0 := hm3.out.cell (a := ⟨wk.heap.size, 0, none⟩) hE2b.out hbox.out.1
        have y1 := hm3.out.cell (a := ⟨wk.heap.size, 1, none⟩) hE2b.out hbox.out.2.1
        have y2 := hm3.out.cell (a := ⟨wk.heap.size, 2, none⟩) hE2b.out hbox.out.2.2
        have un := hmW.cell (a := ⟨n, 0, none⟩) f1 ((Mv.below (E := fun _ => False) hbVH.out).cell (fun h => h) (hbH.out 0 _ huH.out.c0))
        by_cases hlj : j < rn.length
        · obtain ⟨s, hs⟩ : ∃ s, rn[j]? = some s := ⟨_, List.getElem?_eq_getElem hlj⟩
          obtain ⟨b, o', hxp, hbE, hcb⟩ := hname.out j s hs
          have hsc := hmW.cell (a := ⟨b, o' + j, none⟩) hbE hcb
          have hdj : rn.drop j = s :: rn.drop (j + 1) := by
            obtain ⟨h1, h2⟩ := List.getElem?_eq_some_iff.1 hs
            rw [List.drop_eq_getElem_cons h1, h2]
          have hj3' := hj3.out
          rw [hdj, edN_cons] at hj3'
          have hs2 := hsr.out s (List.mem_of_getElem? hs)
          have hgw : GlN wr := (hgH.out.below hbVH.out).mv hmW g0 g1
          have hljI : (j : Int) < (rn.length : Int) := by omega
          by_cases hne : s = u.nm
          · as_aux_lemma =>
              have hok : okO u.nm s = false := by unfold okO; simp [hne]
              rw [hok] at hj3'
              have hj4 := hidP hj3'
              subst hxp
              have tq : (s.toList == u.nm.toList) = true := by rw [hne]; simp
              clear hj3' hdj hs hcb hgw hmW
              gi_wp2_with fail
              repeat ((first | refine ⟨trivial, ?_⟩ | refine And.intro (by intro f hf; cases hf) ?_); gi_wp2_with fail)
              exact ⟨⟨j + 1, E3, by omega, by push_cast; rfl, hj4, hm3, hg3⟩, by simp [intOf]; omega⟩
          · have tq : (s.toList == u.nm.toList) = false := by
              rw [beq_eq_false_iff_ne]
              intro e
              rw [Lib.toList_data, Lib.toList_data] at e
              exact hne (ByteArray.ext (Array.toList_inj.1 e))
            have his := is_any s wr hgw hs2
            rw [isN_eq] at his
            subst hxp
            cases hi : isN s
            · as_aux_lemma =>
                rw [hi] at his
                have hok : okO u.nm s = false := by unfold okO; rw [hi, Bool.and_false]
                rw [hok] at hj3'
                have hj4 := hidP hj3'
                clear hj3' hdj hs hcb hgw hmW
                gi_wp2_with fail
                refine ⟨trivial, (callsIn_wide.2 his).mono ?_⟩
                rintro e w1 ⟨rfl, hb1⟩
                have hj5 : Hid (J (edR u.nm (xk, xt, rn.drop (j + 1)) ++ R) E3 w1) := hJ.keep _ _ _ _ hj4.out (Mv.below hb1)
                have hm5 : Hid (Mv E2 WA w1) := hm3.out.trans hg3.out (Mv.below hb1)
                clear hb1 his
                gi_wp2_with fail
                repeat ((first | refine ⟨trivial, ?_⟩ | refine And.intro (by intro f hf; cases hf) ?_); gi_wp2_with fail)
                exact ⟨⟨j + 1, E3, by omega, by push_cast; rfl, hj5, hm5, hg3⟩, by simp [intOf]; omega⟩
            · as_aux_lemma =>
                rw [hi] at his
                have hok : okO u.nm s = true := by unfold okO; rw [hi]; simp [hne]
                rw [hok] at hj3'
                have hj4 := hidP hj3'
                clear hj3' hdj hs hcb hgw hmW
                gi_wp2_with fail
                refine ⟨trivial, (callsIn_wide.2 his).mono ?_⟩
                rintro e w1 ⟨rfl, hb1⟩
                have bF := Mv.below (E := fun _ => False) hb1
                have q0 := bF.cell (fun h => h) y0
                have q1 := bF.cell (fun h => h) y1
                have q2 := bF.cell (fun h => h) y2
                have qn := bF.cell (fun h => h) un
                have hed := edge_any xk xt (.slice (some ⟨b, o', none⟩) rn.length xc) u.nm s w1
                have hbH1 := hidP hb1
                clear hb1 his bF y0 y1 y2 un
                gi_wp2_with fail
                refine ⟨trivial, (callsIn_wide.2 hed).mono ?_⟩
                rintro e w2 ⟨rfl, hb2⟩
                have hb12 : Below wr.heap.size wr w2 := hbH1.out.trans (hb2.mono hbH1.out.size)
                have hj5 := hJ.keep _ _ _ _ hj4.out (Mv.below hb12)
                have hm5 : Mv E2 WA w2 := hm3.out.trans hg3.out (Mv.below hb12)
                have hg5 : Gr E2 WA E3 := hg3.out
                simp only [↓reduceIte, List.cons_append] at hj5
                obtain ⟨fn, tmps, assign, body, hy, hRd⟩ := hY _ _ E3 w2 hj5
                dsimp only [encE] at hy
                have hmH := hidP hm5
                have hgH5 := hidP hg5
                have hszH := hidP hm5.size
                clear hb2 hed hbH1 hb12 hj5 hm5 hg5 q0 q1 q2 qn
                gi_wp2_with fail
                refine (wide_round' hRd).mono ?_
                rintro e W3 ⟨m3, (⟨rfl, E4, g4, hj6⟩ | ⟨rfl, E4, g4, hj6⟩)⟩
                · gi_wp2_with fail
                  exact ⟨⟨j + 1, E4, by omega, by push_cast; rfl, hj6, hmH.out.trans hgH5.out m3, hgH5.out.trans hszH.out g4⟩, by simp [intOf]; omega⟩
                · have hmZ : Mv E1 V1 W3 := hmA.out.trans hg.out (hmH.out.trans hgH5.out m3)
                  have hszV := hmA.out.size
                  have hgZ : Gr E1 V1 E4 := hg.out.trans hszV (hgH5.out.trans hszH.out g4)
                  gi_wp2_with fail
                  refine bodyPost_ret (results_none rfl _ _ _) rfl ?_
                  exact ⟨⟨_, rfl⟩, (Mv.below hbVH.out).trans' hmZ, .inr ⟨E4, hgZ.mono hbVH.out.size, hj6⟩⟩
        · obtain rfl : j = rn.length := by omega
          have hnl : rn.drop rn.length = [] := List.drop_length
          have hj3' := hj3.out
          rw [hnl] at hj3'
          have fin : Hid (J R E3 wr) := hj3'
          have hmF : Hid (Mv E1 V1 wr) := hmW
          have hgF : Hid (Gr E1 V1 E3) := hg.out.trans (by have := hm.out.size; have := bWAH.out.size; omega) hg3.out
          clear hj3' hmW hnl
          gi_wp2_with fail
          refine ⟨⟨k + 1, E3, by omega, by push_cast; rfl, ?_, hmF, hgF⟩, by simp [intOf]; omega⟩
          rw [hRH.out]; exact fin
    · obtain rfl : k = L := by omega
      have hnil : (relsU u).drop k = [] := List.drop_eq_nil_of_le (by rw [hN.out]; omega)
      have hj' := hj.out
      rw [hnil] at hj'
      gi_wp2_with fail
      go_end0
      exact ⟨⟨_, rfl⟩, (Mv.below hbVH.out).trans' hm.out, .inl ⟨E2, hg.out.mono hbVH.out.size, hj'⟩⟩
end Go.Proofs.YtcfclknfnadgcaaDoor
