import Derived.Test.YtedgnigogkmgkaaGreatDoorBab
import Derived.Test.YtedgnigogkmgkaaGreatDoorGL
import Derived.Test.YtedgnigogkmgkaaGreatDoorGRq
import Derived.Test.YtedgnigogkmgkaaGreatDoorGRnopl
import Derived.Test.YtedgnigogkmgkaaGreatDoorGRnosix
import Derived.Test.YtedgnigogkmgkaaGreatDoorGRnooth
import Derived.Test.YtedgnigogkmgkaaGreatDoorGR2pl
import Derived.Test.YtedgnigogkmgkaaGreatDoorGR2oth
import Derived.Test.YtedgnigogkmgkaaGreatDoorGR3pl
import Derived.Test.YtedgnigogkmgkaaGreatDoorGR3oth
import Derived.Test.YtedgnigogkmgkaaGreatDoorGR4pl
import Derived.Test.YtedgnigogkmgkaaGreatDoorGR4oth
/- What a unit tells of: an edge of a relation; steps of a walk under a fence. -/
namespace Go.Proofs.YtedgnigogkmgkaaGreatDoor
open Go.RowKit Go.Shelf Go.Lib
theorem wpListIn_loadU {F : Fence} {n : Nat} {w : World} {ops : Array Oper} {rest : List Oper} {o : Oper} {a : Act} {Q : Exit → Act → World → Prop} (hg : o.guard = none) (s : Operand) (ho : o.op = .load 30 s) (p : Addr) (hs : a.eval s = .pointer (some p)) (vs : Array Value)
    (hr : (loadCells p 33).run Tryz.prog w = .ok vs w) (h : wpListIn F n Tryz.prog ops Q rest (a.put o.dst (.agg vs)) w) : wpListIn F n Tryz.prog ops Q (o :: rest) a w := by
  refine wpListIn_plain hg fun K hK' => ?_
  unfold Oper.wpIn
  refine ⟨?_, ?_⟩
  · simp [Oper.about, ho]
  · rw [Oper.semAt_plain F _ _ (by rw [ho]; intro c hc'; cases hc')]
    simp [execOp, ho, hs, loadAtU hr, Result.andThen]
    exact hK' _ _ h
set_option maxRecDepth 100000 in
set_option maxHeartbeats 1000000 in
theorem edge_any (k : Int) (t : Bool) (v : Value) (n s : ByteArray) (w : World) :
    Calls Tryz.prog 140 #[.agg #[.int .i64 k, .bool t, v], .string n, .string s] w fun e w' => e = .returned (.agg #[.int .i64 (edO n k t s).1, .string (edO n k t s).2.1, .string (edO n k t s).2.2]) ∧ Below w.heap.size w w' := by
  obtain ⟨B, hB⟩ : ∃ B, w.heap.size = B := ⟨_, rfl⟩
  cases t
  · go_enter Tryz.func140, Tryz.ntmps140
    go_wp2_with fail
    refine bodyPost_ret (v := .agg #[.int .i64 k, .string n, .string s]) (by simp [results, Tryz.results140, go_sem, hB]) rfl ⟨rfl, ?_⟩
    exact ((Below.refl _ _).alloc (by omega) _).alloc (by simp) _
  · go_enter Tryz.func140, Tryz.ntmps140
    go_wp2_with fail
    refine bodyPost_ret (v := .agg #[.int .i64 k, .string s, .string n]) (by simp [results, Tryz.results140, go_sem, hB]) rfl ⟨rfl, ?_⟩
    exact ((Below.refl _ _).alloc (by omega) _).alloc (by simp) _
theorem edN_cons (n : ByteArray) (k : Int) (t : Bool) (x : ByteArray) (r : List ByteArray) : edR n (k, t, x :: r) = if okO n x then edO n k t x :: edR n (k, t, r) else edR n (k, t, r) := by
  unfold edR
  cases h : okO n x <;> simp [h]
/-- The package's variables stay. -/
theorem GlN.mv {w w' : World} {E : Nat → Prop} (h : GlN w) (m : Mv E w w') (h0 : ¬ E 0) (h1 : ¬ E 1) : GlN w' :=
  ⟨fun j e he => ⟨m.cell (a := ⟨0, 2 * j, none⟩) h0 (h.en j e he).1, m.cell (a := ⟨0, 2 * j + 1, none⟩) h0 (h.en j e he).2⟩,
    by obtain ⟨q, hq⟩ := h.mx; exact ⟨q, m.cell (a := ⟨1, 0, none⟩) h1 hq⟩⟩
theorem GlN.lt {w : World} (h : GlN w) : 0 < w.heap.size ∧ 1 < w.heap.size := by
  obtain ⟨q, hq⟩ := h.mx
  exact ⟨cell_lt (h.en 0 _ rfl).1, cell_lt hq⟩
def encE (e : Ed) : Array Value := #[.agg #[.int .i64 e.1, .string e.2.1, .string e.2.2]]
end Go.Proofs.YtedgnigogkmgkaaGreatDoor
/- What a unit tells of, as a row: graph.told$1. -/
namespace Go.Proofs.YtedgnigogkmgkaaGreatDoor
open Go.RowKit Go.Shelf Go.Lib
attribute [local go_sem] Oper.semAt_some
theorem isN_eq (s : ByteArray) : (Nam.cutN s.data.toList).isSome = isN s := rfl
set_option maxRecDepth 100000 in
set_option maxHeartbeats 8000000 in
theorem told_row (n : Nat) (vs : Array Value) (u : Un) (E : Nat → Prop) (W : World) (hrel : ∀ w, UV w vs u → Calls Tryz.prog 139 #[.agg vs] w (RelsEnd w vs (relsU u))) (hu : UV W vs u) (hb : Ub n vs W) (en : ¬ E n) (eu : ∀ b, ubk vs b → ¬ E b) (hg : GlN W) (e0 : ¬ E 0) (e1 : ¬ E 1) (hsz : ∀ r ∈ relsU u, ∀ s ∈ r.2.2, s.size ≤ 2000000) :
    Row Tryz.prog 138 #[.pointer (some ⟨n, 0, none⟩)] encE (tolU u) E W := by
  intro q J Jx E1 V m g hJ hJx hY h0
  have ln : n < W.heap.size := cell_lt (hb 0 _ hu.c0)
  have f1 : ¬ E1 n := g.free ln en
  have fu : ∀ b, ubk vs b → ¬ E1 b := fun b hb => g.free (hu.lt hb) (eu b hb)
  have g0 : ¬ E1 0 := g.free hg.lt.1 e0
  have g1 : ¬ E1 1 := g.free hg.lt.2 e1
  have hu1 := hu.mv m eu
  have hb1 := hb.mv m en
  have hg1 := hg.mv m e0 e1
  have lnV : n < V.heap.size := Nat.lt_of_lt_of_le ln m.size
  have hld := hb1.load hu1.sz
  have hcall := hrel V hu1
  have hlow : Hid (∀ k, E1 k → k < V.heap.size) := fun k hk => hJ.low _ _ _ h0 k hk
  have huH := hidP hu1
  have hbH := hidP hb1
  have hgH := hidP hg1
  have fuH := hidP fu
  clear hrel hu hb hg en eu e0 e1 m g hu1 hb1 hg1 fu
  refine (callsIn_wide (n := 5)).1 ?_
  refine callsIn_of_wp Tryz.func138 rfl trivial ?_ rfl
  simp only [Tryz.ntmps138, List.size_toArray, List.length_cons, List.length_nil, Nat.reduceAdd, Nat.reduceSub, Array.replicate_succ, Array.replicate_zero, List.push_toArray, List.append_toArray, List.nil_append, List.cons_append]
  gi_wp2_with (refine wpListIn_loadU rfl _ rfl _ rfl _ hld ?_)
  refine ⟨trivial, (callsIn_wide.2 hcall).mono ?_⟩
  rintro e V1 ⟨gr, o, c, l, rfl, hrs, hrl, hgr, hbk, hbV⟩
  obtain ⟨L, hL⟩ : ∃ L, l.length = L := ⟨_, rfl⟩
  unfold Rw.slv
  rw [hL]
  have hLH := hidP hL
  have hlowH := hidP (show ∀ k, E1 k → k < V1.heap.size from fun k hk => Nat.lt_of_lt_of_le (hlow.out k hk) hbV.size)
  have hbVH := hidP hbV
  have hrsH := hidP hrs
  have hrlH := hidP hrl
  have hbkH := hidP hbk
  have hgrH := hidP hgr
  have hge : Hid (¬ E1 gr) := fun e => by have := hlow.out gr e; omega
  have hlowV := hidP hlow.out
  have hN : Hid ((relsU u).length = L) := by show _ = _; rw [← hrl.len]; exact hL
  have hLs : L ≤ 1000 := by
    have h1 := hN.out
    have h2 : (relsU u).length ≤ 20 := by
      unfold relsU rels7 relsT relsD
      simp only [List.length_append]
      split <;> split <;> (try split) <;> simp
    omega
  have hJ1 : Hid (J (tolU u) E1 V1) := hJ.keep _ _ _ _ h0 (Mv.below hbV)
  clear hL hbV hrs hrl hbk hgr hlow h0 hcall hld
  gi_wp2_with fail
  gi_loopw [10] (fun i wr => ∃ (k : Nat) (E2 : Nat → Prop), k ≤ L ∧ i = .int .i64 k ∧ Hid (J (((relsU u).drop k).flatMap (edR u.nm)) E2 wr) ∧ Hid (Mv E1 V1 wr) ∧ Hid (Gr E1 V1 E2)) (fun i _ => L - (intOf i).toNat)
  case atStart => exact ⟨0, E1, by omega, rfl, hJ1, Mv.refl _ _, Gr.refl _ _⟩
  case round =>
    obtain ⟨k, E2, hk, rfl, hj, hm, hg⟩ := hrel
    obtain ⟨wk, hwk⟩ : ∃ wk, wk = wr := ⟨_, rfl⟩
    subst hwk
    by_cases hlt : k < L
    · obtain ⟨x, hx⟩ : ∃ x, l[k]? = some x := ⟨_, List.getElem?_eq_getElem (by rw [hLH.out]; omega)⟩
      obtain ⟨⟨rk, rt, rn⟩, hr, hxk, hxt, hnr⟩ := hrlH.out.at hx
      have hRr : Rw.RA wk gr o l := fun j v hjv => hm.out.cell (a := ⟨gr, o + j, none⟩) hge.out (hrsH.out.ra j v hjv)
      obtain ⟨c0, c1, c2⟩ := hRr.at hx
      obtain ⟨xk, xt, xp, xn, xc⟩ := x
      dsimp only at hxk hxt hnr c0 c1 c2
      subst hxk
      subst hxt
      obtain rfl : xn = rn.length := by
        obtain ⟨p', c', e⟩ := hnr.shape
        unfold rsl at e
        injection e
      have hrnl : rn.length ≤ 1000000 := by
        rcases hnr with ⟨rfl, _⟩ | ⟨b, o', c', e, _, h2, _⟩
        · simp
        · exact h2
      have hname : Hid (∀ (j : Nat) (s : ByteArray), rn[j]? = some s → ∃ b o', xp = some ⟨b, o', none⟩ ∧ ¬ E1 b ∧ V1.cell? ⟨b, o' + j, none⟩ = some (.string s)) := by
        intro j s hs
        rcases hnr with ⟨rfl, _⟩ | ⟨b, o', c', e, h1, _, h3⟩
        · cases hs
        · unfold rsl at e
          injection e with e1 e2 e3
          subst e1
          refine ⟨b, o', rfl, fun eb => ?_, h3 j s hs⟩
          have hrb : rbk (rsl ⟨xk, xt, some ⟨b, o', none⟩, rn.length, xc⟩) = some b := by
            unfold rsl rbk
            simp [h1]
          rcases (hbkH.out _ (List.mem_of_getElem? hx) b hrb).1 with q | q
          · exact fuH.out b q eb
          · have := hlowV.out b eb; omega
      have hdr : (relsU u).drop k = (xk, xt, rn) :: (relsU u).drop (k + 1) := by
        obtain ⟨h1, h2⟩ := List.getElem?_eq_some_iff.1 hr
        rw [List.drop_eq_getElem_cons h1, h2]
      have hsr : Hid (∀ s ∈ rn, s.size ≤ 2000000) := fun s hs => hsz _ (List.mem_of_getElem? hr) s hs
      obtain ⟨R, hR⟩ : ∃ R, ((relsU u).drop (k + 1)).flatMap (edR u.nm) = R := ⟨_, rfl⟩
      have hj' := hj.out
      rw [hdr, List.flatMap_cons, hR] at hj'
      have hRH := hidP hR
      have hltI : (k : Int) < (L : Int) := by omega
      obtain ⟨WA, hWA⟩ : ∃ WA, wk.alloc (.cells #[.int .i64 xk, .bool xt, .slice xp rn.length xc] 202) = WA := ⟨_, rfl⟩
      have bWA : Below wk.heap.size wk WA := by rw [← hWA]; exact (Below.refl _ _).alloc (Nat.le_refl _) _
      have sWA : WA.heap.size = wk.heap.size + 1 := by rw [← hWA]; simp
      have hjA : Hid (J (edR u.nm (xk, xt, rn) ++ R) E2 WA) := hJ.keep _ _ _ _ hj' (Mv.below bWA)
      have hbox : Hid (WA.cell? ⟨wk.heap.size, 0, none⟩ = some (.int .i64 xk) ∧ WA.cell? ⟨wk.heap.size, 1, none⟩ = some (.bool xt) ∧ WA.cell? ⟨wk.heap.size, 2, none⟩ = some (.slice xp rn.length xc)) := by
        rw [← hWA]; exact ⟨cell_at rfl rfl, cell_at rfl rfl, cell_at rfl rfl⟩
      have hE2b : Hid (¬ E2 wk.heap.size) := fun e => by have := hJ.low _ _ _ hj' _ e; omega
      have bWAH := hidP bWA
      have hmA : Hid (Mv E1 V1 WA) := hm.out.trans hg.out (Mv.below bWA)
      have z2 := hbox.out.2.2
      clear hx hr hnr hRr hdr hj' hR bWA
      gi_wp2_with (rw [hWA])
      gi_loopw [17] (fun i wr => ∃ (j : Nat) (E3 : Nat → Prop), j ≤ rn.length ∧ i = .int .i64 j ∧ Hid (J (edR u.nm (xk, xt, rn.drop j) ++ R) E3 wr) ∧ Hid (Mv E2 WA wr) ∧ Hid (Gr E2 WA E3)) (fun i _ => rn.length - (intOf i).toNat)
      case atStart => exact ⟨0, E2, by omega, rfl, hjA, Mv.refl _ _, Gr.refl _ _⟩
      case round =>
        obtain ⟨j, E3, hjl, rfl, hj3, hm3, hg3⟩ := hrel
        have hmW : Mv E1 V1 wr := hmA.out.trans hg.out hm3.out
        have y0 := hm3.out.cell (a := ⟨wk.heap.size, 0, none⟩) hE2b.out hbox.out.1
        have y1 := hm3.out.cell (a := ⟨wk.heap.size, 1, none⟩) hE2b.out hbox.out.2.1
        have y2 := hm3.out.cell (a := ⟨wk.heap.size, 2, none⟩) hE2b.out hbox.out.2.2
        have un := hmW.cell (a := ⟨n, 0, none⟩) f1 ((Mv.below (E := fun _ => False) hbVH.out).cell (fun h => h) (hbH.out 0 _ huH.out.c0))
        by_cases hlj : j < rn.length
        · obtain ⟨s, hs⟩ : ∃ s, rn[j]? = some s := ⟨_, List.getElem?_eq_getElem hlj⟩
          obtain ⟨b, o', hxp, hbE, hcb⟩ := hname.out j s hs
          have hsc := hmW.cell (a := ⟨b, o' + j, none⟩) hbE hcb
          have hdj : rn.drop j = s :: rn.drop (j + 1) := by
            obtain ⟨h1, h2⟩ := List.getElem?_eq_some_iff.1 hs
            rw [List.drop_eq_getElem_cons h1, h2]
          have hj3' := hj3.out
          rw [hdj, edN_cons] at hj3'
          have hs2 := hsr.out s (List.mem_of_getElem? hs)
          have hgw : GlN wr := (hgH.out.below hbVH.out).mv hmW g0 g1
          have hljI : (j : Int) < (rn.length : Int) := by omega
          by_cases hne : s = u.nm
          · as_aux_lemma =>
              have hok : okO u.nm s = false := by unfold okO; simp [hne]
              rw [hok] at hj3'
              have hj4 := hidP hj3'
              subst hxp
              have tq : (s.toList == u.nm.toList) = true := by rw [hne]; simp
              clear hj3' hdj hs hcb hgw hmW
              gi_wp2_with fail
              repeat ((first | refine ⟨trivial, ?_⟩ | refine And.intro (by intro f hf; cases hf) ?_); gi_wp2_with fail)
              exact ⟨⟨j + 1, E3, by omega, by push_cast; rfl, hj4, hm3, hg3⟩, by simp [intOf]; omega⟩
          · have tq : (s.toList == u.nm.toList) = false := by
              rw [beq_eq_false_iff_ne]
              intro e
              rw [Lib.toList_data, Lib.toList_data] at e
              exact hne (ByteArray.ext (Array.toList_inj.1 e))
            have his := is_any s wr hgw hs2
            rw [isN_eq] at his
            subst hxp
            cases hi : isN s
            · as_aux_lemma =>
                rw [hi] at his
                have hok : okO u.nm s = false := by unfold okO; rw [hi, Bool.and_false]
                rw [hok] at hj3'
                have hj4 := hidP hj3'
                clear hj3' hdj hs hcb hgw hmW
                gi_wp2_with fail
                refine ⟨trivial, (callsIn_wide.2 his).mono ?_⟩
                rintro e w1 ⟨rfl, hb1⟩
                have hj5 : Hid (J (edR u.nm (xk, xt, rn.drop (j + 1)) ++ R) E3 w1) := hJ.keep _ _ _ _ hj4.out (Mv.below hb1)
                have hm5 : Hid (Mv E2 WA w1) := hm3.out.trans hg3.out (Mv.below hb1)
                clear hb1 his
                gi_wp2_with fail
                repeat ((first | refine ⟨trivial, ?_⟩ | refine And.intro (by intro f hf; cases hf) ?_); gi_wp2_with fail)
                exact ⟨⟨j + 1, E3, by omega, by push_cast; rfl, hj5, hm5, hg3⟩, by simp [intOf]; omega⟩
            · as_aux_lemma =>
                rw [hi] at his
                have hok : okO u.nm s = true := by unfold okO; rw [hi]; simp [hne]
                rw [hok] at hj3'
                have hj4 := hidP hj3'
                clear hj3' hdj hs hcb hgw hmW
                gi_wp2_with fail
                refine ⟨trivial, (callsIn_wide.2 his).mono ?_⟩
                rintro e w1 ⟨rfl, hb1⟩
                have bF := Mv.below (E := fun _ => False) hb1
                have q0 := bF.cell (fun h => h) y0
                have q1 := bF.cell (fun h => h) y1
                have q2 := bF.cell (fun h => h) y2
                have qn := bF.cell (fun h => h) un
                have hed := edge_any xk xt (.slice (some ⟨b, o', none⟩) rn.length xc) u.nm s w1
                have hbH1 := hidP hb1
                clear hb1 his bF y0 y1 y2 un
                gi_wp2_with fail
                refine ⟨trivial, (callsIn_wide.2 hed).mono ?_⟩
                rintro e w2 ⟨rfl, hb2⟩
                have hb12 : Below wr.heap.size wr w2 := hbH1.out.trans (hb2.mono hbH1.out.size)
                have hj5 := hJ.keep _ _ _ _ hj4.out (Mv.below hb12)
                have hm5 : Mv E2 WA w2 := hm3.out.trans hg3.out (Mv.below hb12)
                have hg5 : Gr E2 WA E3 := hg3.out
                simp only [↓reduceIte, List.cons_append] at hj5
                obtain ⟨fn, tmps, assign, body, hy, hRd⟩ := hY _ _ E3 w2 hj5
                dsimp only [encE] at hy
                have hmH := hidP hm5
                have hgH5 := hidP hg5
                have hszH := hidP hm5.size
                clear hb2 hed hbH1 hb12 hj5 hm5 hg5 q0 q1 q2 qn
                gi_wp2_with fail
                refine (wide_round' hRd).mono ?_
                rintro e W3 ⟨m3, (⟨rfl, E4, g4, hj6⟩ | ⟨rfl, E4, g4, hj6⟩)⟩
                · gi_wp2_with fail
                  exact ⟨⟨j + 1, E4, by omega, by push_cast; rfl, hj6, hmH.out.trans hgH5.out m3, hgH5.out.trans hszH.out g4⟩, by simp [intOf]; omega⟩
                · have hmZ : Mv E1 V1 W3 := hmA.out.trans hg.out (hmH.out.trans hgH5.out m3)
                  have hszV := hmA.out.size
                  have hgZ : Gr E1 V1 E4 := hg.out.trans hszV (hgH5.out.trans hszH.out g4)
                  gi_wp2_with fail
                  refine bodyPost_ret (results_none rfl _ _ _) rfl ?_
                  exact ⟨⟨_, rfl⟩, (Mv.below hbVH.out).trans' hmZ, .inr ⟨E4, hgZ.mono hbVH.out.size, hj6⟩⟩
        · obtain rfl : j = rn.length := by omega
          have hnl : rn.drop rn.length = [] := List.drop_length
          have hj3' := hj3.out
          rw [hnl] at hj3'
          have fin : Hid (J R E3 wr) := hj3'
          have hmF : Hid (Mv E1 V1 wr) := hmW
          have hgF : Hid (Gr E1 V1 E3) := hg.out.trans (by have := hm.out.size; have := bWAH.out.size; omega) hg3.out
          clear hj3' hmW hnl
          gi_wp2_with fail
          refine ⟨⟨k + 1, E3, by omega, by push_cast; rfl, ?_, hmF, hgF⟩, by simp [intOf]; omega⟩
          rw [hRH.out]; exact fin
    · obtain rfl : k = L := by omega
      have hnil : (relsU u).drop k = [] := List.drop_eq_nil_of_le (by rw [hN.out]; omega)
      have hj' := hj.out
      rw [hnil] at hj'
      gi_wp2_with fail
      go_end0
      exact ⟨⟨_, rfl⟩, (Mv.below hbVH.out).trans' hm.out, .inl ⟨E2, hg.out.mono hbVH.out.size, hj'⟩⟩
end Go.Proofs.YtedgnigogkmgkaaGreatDoor
/- The contract of graph.relations. -/
namespace Go.Proofs.YtedgnigogkmgkaaGreatDoor
open Go.RowKit Go.Shelf Go.Lib
theorem relations_any (vs : Array Value) (u : Un) (w : World) (hu : UV w vs u) : Calls Tryz.prog 139 #[.agg vs] w (RelsEnd w vs (relsU u)) := by
  by_cases h2 : u.kd = 2
  · cases hp : u.pl
    · exact rel_2_oth vs u w hu h2 hp
    · exact rel_2_pl vs u w hu h2 hp
  by_cases h3 : u.kd = 3
  · cases hp : u.pl
    · exact rel_3_oth vs u w hu h3 hp
    · exact rel_3_pl vs u w hu h3 hp
  by_cases h4 : u.kd = 4
  · cases hp : u.pl
    · exact rel_4_oth vs u w hu h4 hp
    · exact rel_4_pl vs u w hu h4 hp
  cases hp : u.pl
  · by_cases h6 : u.kd = 6
    · exact rel_no_six vs u w hu h6 hp
    · exact rel_no_oth vs u w hu h2 h3 h4 hp h6
  · exact rel_no_pl vs u w hu h2 h3 h4 hp
end Go.Proofs.YtedgnigogkmgkaaGreatDoor
/- A graph's edges in memory, by both of their ends. -/
namespace Go.Proofs.YtedgnigogkmgkaaGreatDoor
open Go.RowKit Go.Shelf Go.Lib
/-- Where a graph lies. -/
structure GS where
  gb : Nat
  ub : Nat
  eb1 : Nat
  eb2 : Nat
  f1 : ByteArray → Option Nat
  f2 : ByteArray → Option Nat
  c : Nat
def hasEd (S : GS) (k : Nat) : Prop := hasE S.eb1 S.f1 k ∨ hasE S.eb2 S.f2 k
def fw (K : Ed → Int) (x : ByteArray) (e : Ed) : Int := if e.2.1 = x then K e else 0
def bw (K : Ed → Int) (x : ByteArray) (e : Ed) : Int := if e.2.2 = x then K e else 0
def updK (K : Ed → Int) (e : Ed) (d : Int) : Ed → Int := fun f => if f = e then K f + d else K f
theorem fw_upd (K : Ed → Int) (e : Ed) (d : Int) : updC (fw K) e.2.1 e d = fw (updK K e d) := by
  funext y f
  unfold updC fw updK
  by_cases h : f = e
  · subst h
    by_cases h2 : f.2.1 = y
    · subst h2; simp
    · have : ¬ y = f.2.1 := fun q => h2 q.symm
      simp [h2, this]
  · simp [h]
theorem bw_upd (K : Ed → Int) (e : Ed) (d : Int) : updC (bw K) e.2.2 e d = bw (updK K e d) := by
  funext y f
  unfold updC bw updK
  by_cases h : f = e
  · subst h
    by_cases h2 : f.2.2 = y
    · subst h2; simp
    · have : ¬ y = f.2.2 := fun q => h2 q.symm
      simp [h2, this]
  · simp [h]
structure Gd (w : World) (S : GS) (K : Ed → Int) : Prop where
  c1 : w.cell? ⟨S.gb, 1, none⟩ = some (.map (some S.eb1))
  c2 : w.cell? ⟨S.gb, 2, none⟩ = some (.map (some S.eb2))
  e1 : En w S.eb1 S.f1 (fw K) S.c
  e2 : En w S.eb2 S.f2 (bw K) S.c
  dj : ∀ k, hasE S.eb1 S.f1 k → ¬ hasE S.eb2 S.f2 k
  ng : ¬ hasEd S S.gb
theorem Gd.lt {w : World} {S : GS} {K : Ed → Int} (h : Gd w S K) {k : Nat} (hk : hasEd S k) : k < w.heap.size := hk.elim h.e1.lt h.e2.lt
theorem Gd.mv {w w' : World} {S : GS} {K : Ed → Int} {E : Nat → Prop} (h : Gd w S K) (m : Mv E w w') (hE : ∀ k, hasEd S k → ¬ E k) (hg : ¬ E S.gb) : Gd w' S K :=
  ⟨m.cell (a := ⟨S.gb, 1, none⟩) hg h.c1, m.cell (a := ⟨S.gb, 2, none⟩) hg h.c2, h.e1.mv m (fun k hk => hE k (.inl hk)), h.e2.mv m (fun k hk => hE k (.inr hk)), h.dj, h.ng⟩
/-- From edges to edges. -/
structure GdGo (S : GS) (w : World) (S' : GS) (w' : World) (n : Nat) : Prop where
  gb : S'.gb = S.gb
  ub : S'.ub = S.ub
  eb1 : S'.eb1 = S.eb1
  eb2 : S'.eb2 = S.eb2
  mv : Mv (hasEd S) w w'
  gr : Gr (hasEd S) w (hasEd S')
  c : S'.c ≤ S.c + n
theorem GdGo.refl (S : GS) (w : World) : GdGo S w S w 0 := ⟨rfl, rfl, rfl, rfl, Mv.refl _ _, Gr.refl _ _, by omega⟩
theorem GdGo.trans {S T U : GS} {w v u : World} {n m : Nat} (h : GdGo S w T v n) (k : GdGo T v U u m) : GdGo S w U u (n + m) :=
  ⟨k.gb.trans h.gb, k.ub.trans h.ub, k.eb1.trans h.eb1, k.eb2.trans h.eb2, h.mv.trans h.gr k.mv, h.gr.trans h.mv.size k.gr, by have := h.c; have := k.c; omega⟩
theorem GdGo.below {S : GS} {w w' : World} (b : Below w.heap.size w w') : GdGo S w S w' 0 := ⟨rfl, rfl, rfl, rfl, Mv.below b, Gr.refl _ _, by omega⟩
theorem GdGo.mono {S T : GS} {w v : World} {n m : Nat} (h : GdGo S w T v n) (hm : n ≤ m) : GdGo S w T v m := ⟨h.gb, h.ub, h.eb1, h.eb2, h.mv, h.gr, by have := h.c; omega⟩
theorem fw_at (K : Ed → Int) (e : Ed) : fw K e.2.1 e = K e := by unfold fw; rw [if_pos rfl]
theorem bw_at (K : Ed → Int) (e : Ed) : bw K e.2.2 e = K e := by unfold bw; rw [if_pos rfl]
/-- An edge told of once more, or once less: first by its from. -/
theorem Gd.fst {w w1 : World} {S : GS} {K : Ed → Int} (h : Gd w S K) {f1' : ByteArray → Option Nat} (g1 : EnGo w S.eb1 S.f1 w1 f1') :
    w1.cell? ⟨S.gb, 1, none⟩ = some (.map (some S.eb1)) ∧ w1.cell? ⟨S.gb, 2, none⟩ = some (.map (some S.eb2)) ∧ En w1 S.eb2 S.f2 (bw K) (S.c + 1) ∧ ∀ k, hasE S.eb1 f1' k → ¬ hasE S.eb2 S.f2 k :=
  ⟨g1.mv.cell (a := ⟨S.gb, 1, none⟩) (fun q => h.ng (.inl q)) h.c1, g1.mv.cell (a := ⟨S.gb, 2, none⟩) (fun q => h.ng (.inl q)) h.c2, (h.e2.mv g1.mv (fun k hk q => h.dj k q hk)).up (by omega),
    fun k hk q => by rcases g1.gr k hk with r | r; exact h.dj k r q; have := h.e2.lt q; omega⟩
theorem Gd.snd {w w1 w2 : World} {S : GS} {K : Ed → Int} (h : Gd w S K) {e : Ed} {d : Int} {f1' f2' : ByteArray → Option Nat} (h1 : En w1 S.eb1 f1' (updC (fw K) e.2.1 e d) (S.c + 1)) (g1 : EnGo w S.eb1 S.f1 w1 f1')
    (h2 : En w2 S.eb2 f2' (updC (bw K) e.2.2 e d) (S.c + 2)) (g2 : EnGo w1 S.eb2 S.f2 w2 f2') : ∃ S', Gd w2 S' (updK K e d) ∧ GdGo S w S' w2 2 := by
  obtain ⟨a1, a2, a3, a4⟩ := h.fst g1
  have hgb : S.gb < w.heap.size := cell_lt h.c1
  have hgb1 : S.gb < w1.heap.size := Nat.lt_of_lt_of_le hgb g1.mv.size
  refine ⟨{ S with f1 := f1', f2 := f2', c := S.c + 2 }, ⟨g2.mv.cell (a := ⟨S.gb, 1, none⟩) (fun q => h.ng (.inr q)) a1, g2.mv.cell (a := ⟨S.gb, 2, none⟩) (fun q => h.ng (.inr q)) a2, ?_, ?_, fun k hk q => ?_, fun q => ?_⟩, ⟨rfl, rfl, rfl, rfl, ?_, fun k hk => ?_, by show S.c + 2 ≤ _; omega⟩⟩
  · rw [← fw_upd]
    exact (h1.mv g2.mv (fun k hk q => a4 k hk q)).up (by show S.c + 1 ≤ S.c + 2; omega)
  · rw [← bw_upd]; exact h2
  · rcases g2.gr k q with r | r
    · exact a4 k hk r
    · have := h1.lt hk; omega
  · rcases q with q | q
    · rcases g1.gr _ q with r | r
      · exact h.ng (.inl r)
      · change w.heap.size ≤ S.gb at r; omega
    · rcases g2.gr _ q with r | r
      · exact h.ng (.inr r)
      · change w1.heap.size ≤ S.gb at r; omega
  · exact (g1.mv.mono (fun k _ q => .inl q)).trans' (g2.mv.mono (fun k _ q => .inr q))
  · rcases hk with q | q
    · exact (g1.gr k q).imp .inl id
    · rcases g2.gr k q with r | r
      · exact .inl (.inr r)
      · exact .inr (Nat.le_trans g1.mv.size r)
/-- How often an edge stands in a row. -/
def cn (f : Ed) : List Ed → Nat
  | [] => 0
  | e :: r => (if e = f then 1 else 0) + cn f r
theorem cn_app (f : Ed) : ∀ a b, cn f (a ++ b) = cn f a + cn f b
  | [], _ => by simp [cn]
  | x :: a, b => by simp [cn, cn_app f a b]; omega
theorem cn_mem {f : Ed} : ∀ {l : List Ed}, cn f l ≠ 0 ↔ f ∈ l
  | [] => by simp [cn]
  | e :: r => by
    have := cn_mem (f := f) (l := r)
    simp only [cn, List.mem_cons]
    by_cases h : e = f
    · simp [h]
    · have h2 : ¬ f = e := fun q => h q.symm
      simp [h, h2, this]
/-- Told of by d more, each of a row. -/
def addL (K : Ed → Int) (l : List Ed) (d : Int) : Ed → Int := fun f => K f + d * (cn f l : Int)
theorem addL_cons (K : Ed → Int) (e : Ed) (l : List Ed) (d : Int) : addL (updK K e d) l d = addL K (e :: l) d := by
  funext f
  unfold addL updK
  simp only [cn]
  by_cases h : f = e
  · subst h
    simp only [if_true, Int.natCast_add, Int.mul_add]
    omega
  · have h2 : ¬ e = f := fun q => h q.symm
    simp [h, h2]
theorem addL_nil (K : Ed → Int) (d : Int) : addL K [] d = K := by funext f; unfold addL; simp [cn]
theorem tol_ok {u : Un} (hn : u.nm.size ≤ 1000) {e : Ed} (he : e ∈ tolU u) : okE e := by
  unfold tolU at he
  obtain ⟨r, hr, he⟩ := List.mem_flatMap.1 he
  unfold edR at he
  obtain ⟨o, ho, rfl⟩ := List.mem_map.1 he
  have hk : -9223372036854775808 ≤ r.1 ∧ r.1 ≤ 9223372036854775807 := by
    unfold relsU rels7 relsT relsD at hr
    simp only [List.mem_append] at hr
    rcases hr with (hr | hr) | hr
    · simp only [List.mem_cons, List.not_mem_nil, or_false] at hr
      rcases hr with rfl | rfl | rfl | rfl | rfl | rfl | rfl <;> simp
    · split at hr
      · simp only [List.mem_cons, List.not_mem_nil, or_false] at hr
        rcases hr with rfl | rfl <;> simp
      · cases hr
    · split at hr
      · cases hr
      · split at hr <;> simp only [List.mem_cons, List.not_mem_nil, or_false] at hr <;> rcases hr with rfl | rfl <;> simp
  have ho2 := (List.mem_filter.1 ho).2
  have hs : o.size ≤ 60 := by
    unfold okO at ho2
    simp at ho2
    exact isN_le ho2.2
  unfold edO
  split
  · exact ⟨hk, by show o.size ≤ 1000; omega, hn⟩
  · exact ⟨hk, hn, by show o.size ≤ 1000; omega⟩
end Go.Proofs.YtedgnigogkmgkaaGreatDoor
