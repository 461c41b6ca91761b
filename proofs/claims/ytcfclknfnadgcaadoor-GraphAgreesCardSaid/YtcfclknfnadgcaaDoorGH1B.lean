/- GraphAgrees: the walk. -/
import Derived.Test.YtcfclknfnadgcaaDoorBaj
import Derived.Test.YtcfclknfnadgcaaDoorBao
import Derived.Test.YtcfclknfnadgcaaDoorBai
import Derived.BigQuiet
namespace Go.Proofs.YtcfclknfnadgcaaDoor
open Go.RowKit Go.Shelf Go.Lib
attribute [local go_sem] Oper.semAt_some
set_option maxRecDepth 100000 in
set_option maxHeartbeats 16000000 in
theorem agrees_walk (v : Value) (l : List Stp) (w : World) (h : SpIs w v l) (hg : GlN w) (hv : ∀ x ∈ l, ∀ k, ubk x.vs k → k < w.heap.size) : Calls Tryd.prog 3 #[v] w fun e w' => e = .returned (.bool true) ∧ Below w.heap.size w w' := by
  have hkn := known_any w hg
  obtain ⟨p, c, rfl⟩ := h.sh
  obtain ⟨n, hn⟩ : ∃ n, l.length = n := ⟨_, rfl⟩
  have hN := hidP hn
  have hcel : Hid (∀ wr, Below w.heap.size w wr → ∀ j x, l[j]? = some x → ∃ b o, p = some ⟨b, o, none⟩ ∧ SpAt wr b (o + j * 35) x ∧ UW wr x.vs x.u ∧ ∀ k, ubk x.vs k → k < w.heap.size) := fun wr bw j x hj => by
    have h' := h.below bw
    obtain ⟨b, o, c', e, q⟩ := h'.at_ j x hj
    injection e with e1 e2 e3
    exact ⟨b, o, e1, q, (h'.ok x (List.mem_of_getElem? hj)).1, fun k hk => hv x (List.mem_of_getElem? hj) k hk⟩
  have hFw : Hid (∀ wr, Below w.heap.size w wr → Calls Tryd.prog 7 #[.slice p n c] wr (LfE l wr)) := fun wr bw => by
    have := lawFew_any _ l wr (h.below bw)
    rwa [hn] at this
  have hgH := hidP hg
  have hglt : Hid (0 < w.heap.size ∧ 1 < w.heap.size) := hg.lt
  rw [hn]
  clear h hg hv hn
  go_enter Tryd.func3, Tryd.ntmps3
  go_wp2_with fail
  refine hkn.mono ?_
  rintro e w0 ⟨rfl, hb0⟩
  have b0H := hidP hb0
  have hF := hFw.out w0 hb0
  clear hkn hb0 hFw
  go_wp2_with fail
  refine hF.mono ?_
  rintro e w1 ⟨q, rfl, hq, hb1⟩
  have b1H : Hid (Below w.heap.size w w1) := b0H.out.trans (hb1.mono b0H.out.size)
  have hqH := hidP hq
  clear hF hb1 hq b0H
  cases q
  case false =>
    go_wp2_with fail
    go_ret
    exact ⟨rfl, b1H.out⟩
  obtain ⟨hn50, hfewA⟩ := hqH.out rfl
  have hfew := hidP hfewA
  rw [hN.out] at hn50
  have hnew := new_any w1
  clear hqH hfewA
  go_wp2_with fail
  refine hnew.mono ?_
  rintro e w2 ⟨S0, rfl, hG, hge, hS0, hb2⟩
  obtain ⟨gb, hgb⟩ : ∃ gb, S0.gb = gb := ⟨_, rfl⟩
  obtain ⟨B, hB⟩ : ∃ B, w1.heap.size = B := ⟨_, rfl⟩
  have hwB : Hid (w.heap.size ≤ B) := by have := b1H.out.size; show _ ≤ _; omega
  have hI0 : Hid (∃ S L, Ga B gb w1 w2 S L (600 * 0)) := ⟨S0, [], hG, hgb, by rw [← hB]; exact hb2, fun k hk => by have := hge k hk; omega, fun p hp => (by cases hp), Nat.zero_le _, by omega⟩
  have hBH := hidP hB
  rw [hgb]
  clear hnew hG hge hS0 hb2 hgb hB
  go_wp2_with fail
  go_loopw [4] (fun i wr => ∃ k : Nat, k ≤ n ∧ i = .int .i64 k ∧ Hid (∃ S L, Ga B gb w1 wr S L (600 * k))) (fun i _ => n - (intOf i).toNat)
  case atStart => exact ⟨0, by omega, rfl, hI0⟩
  case round =>
    obtain ⟨k, hk, rfl, hI⟩ := hrel
    clear hI0
    by_cases hlt : k < n
    · have hkI : (k : Int) < (n : Int) := by omega
      obtain ⟨S, L, hGa⟩ := hI.out
      have bw : Below w.heap.size w wr := b1H.out.trans (hGa.be.mono hwB.out)
      obtain ⟨x, hx⟩ : ∃ x, l[k]? = some x := ⟨_, List.getElem?_eq_getElem (by rw [hN.out]; exact hlt)⟩
      obtain ⟨b, o, rfl, q, hu, hbk⟩ := hcel.out _ bw k x hx
      have ha := q.a
      have hld := ldAt q.u hu.sz
      have hgl := hgH.out.below bw
      have hA := add_any hGa (by rw [hBH.out]; exact Nat.le_refl _) (by omega) x.vs x.u hu (hfew.out x (List.mem_of_getElem? hx)) hgl (by have := hglt.out.1; have := hwB.out; omega) (by have := hglt.out.2; have := hwB.out; omega) (fun k hk => by have := hbk k hk; have := hwB.out; omega)
      have hI9 : Hid (∃ S L, Ga B gb w1 wr S L (600 * (k + 1))) := ⟨S, L, { hGa with c := by have := hGa.c; omega }⟩
      clear hI hGa bw hx q hu hbk hgl
      cases had : x.ad with
      | false =>
        rw [had] at ha
        have fin : Hid (∃ S L, Ga B gb w1 wr S L (600 * (k + 1))) := hI9.out
        clear hA hld
        go_wp2_with fail
        exact ⟨⟨k + 1, by omega, by go_num, fin⟩, by simp [intOf]; omega⟩
      | true =>
        rw [had] at ha
        go_wp2_with (refine wpList_loadU rfl _ rfl _ rfl _ hld ?_)
        refine hA.mono ?_
        rintro e w3 ⟨r, S', L', rfl, hGa'⟩
        have fin : Hid (∃ S L, Ga B gb w1 w3 S L (600 * (k + 1))) := ⟨S', L', { hGa' with c := by have := hGa'.c; omega }⟩
        clear hA hld hGa' hI9
        go_wp2_with fail
        exact ⟨⟨k + 1, by omega, by go_num, fin⟩, by simp [intOf]; omega⟩
    · have hke : k = n := by omega
      subst hke
      have hkI : ¬ (k : Int) < (k : Int) := by omega
      have hkd : decide ((k : Int) < (k : Int)) = false := decide_eq_false hkI
      obtain ⟨S, L, hGa⟩ := hI.out
      obtain ⟨V, hV⟩ : ∃ V, V = wr := ⟨_, rfl⟩
      subst hV
      have bV : Hid (Below w.heap.size w V) := b1H.out.trans (hGa.be.mono hwB.out)
      have hGaH : Hid (∀ W, Below V.heap.size V W → Ga B gb w1 W S L (600 * k)) := fun W b => hGa.below b (by rw [hBH.out]; exact Nat.le_refl _)
      clear hI hGa
      go_wp2_with fail
      go_loopw [5] (fun i wq => ∃ k' : Nat, k' ≤ k ∧ i = .int .i64 k' ∧ Hid (Below V.heap.size V wq)) (fun i _ => k - (intOf i).toNat)
      case atStart => exact ⟨0, by omega, rfl, Below.refl _ _⟩
      case round =>
        obtain ⟨i, hi, rfl, hQ⟩ := hrel
        by_cases hlt2 : i < k
        · have hkI2 : (i : Int) < (k : Int) := by omega
          obtain ⟨x, hx⟩ : ∃ x, l[i]? = some x := ⟨_, List.getElem?_eq_getElem (by rw [hN.out]; exact hlt2)⟩
          have hfx := hfew.out x (List.mem_of_getElem? hx)
          have bq := bV.out.trans (hQ.out.mono bV.out.size)
          obtain ⟨b, o, rfl, q, hu, hbk⟩ := hcel.out _ bq i x hx
          have cnm := q.u 0 _ hu.c0
          rw [Nat.add_zero] at cnm
          have hO := ga_out (hGaH.out _ hQ.out) (by omega) x.u.nm (by have := hfx.1; omega)
          have hInto := hGaH
          have hnmL : Hid (x.u.nm.size ≤ 1000) := by have := hfx.1; show _ ≤ _; omega
          have hcn : Hid (∀ W, Below V.heap.size V W → W.cell? ⟨b, o + i * 35 + 1, none⟩ = some (.string x.u.nm)) := fun W bW => by
            obtain ⟨b', o', e, q', hu', _⟩ := hcel.out _ (bV.out.trans (bW.mono bV.out.size)) i x hx
            injection e with e
            injection e with e1 e2
            subst e1 e2
            have := q'.u 0 _ hu'.c0
            rwa [Nat.add_zero] at this
          obtain ⟨nm, hnm⟩ : ∃ nm, x.u.nm = nm := ⟨_, rfl⟩
          rw [hnm] at cnm hO hcn hnmL
          clear hx hfx bq q hu hbk hnm
          go_wp2_with fail
          refine hO.mono ?_
          rintro e w3 ⟨ve, ys, rfl, sv, nd, mem, hb3, hle⟩
          have bR : Hid (Below V.heap.size V w3) := hQ.out.trans (hb3.mono hQ.out.size)
          have hE : Hid (∀ W, Below w3.heap.size w3 W → Eg.SV W ve ys) := fun W bW => sv.mv (F := fun _ => False) (Mv.below bW) (fun _ _ q => q)
          obtain ⟨pe, ce, rfl⟩ := sv.shape
          obtain ⟨ne, hne⟩ : ∃ ne, ys.length = ne := ⟨_, rfl⟩
          have hneH := hidP hne
          have memH := hidP mem
          have ndH := hidP nd
          rw [hne] at hE hle
          clear hO sv mem nd hb3 hne hQ cnm
          rw [hneH.out]
          go_wp2_with fail
          go_loopw [7] (fun i wq => ∃ j : Nat, j ≤ ne ∧ i = .int .i64 j ∧ Hid (Below w3.heap.size w3 wq)) (fun i _ => ne - (intOf i).toNat)
          case atStart => exact ⟨0, by omega, rfl, Below.refl _ _⟩
          case round =>
            obtain ⟨j, hj, rfl, hP⟩ := hrel
            by_cases hlt3 : j < ne
            · have hkI3 : (j : Int) < (ne : Int) := by omega
              obtain ⟨y, hy⟩ : ∃ y, ys[j]? = some y := ⟨_, List.getElem?_eq_getElem (by rw [hneH.out]; exact hlt3)⟩
              obtain ⟨y1, y2⟩ := fw_ne ((memH.out y).1 (List.mem_of_getElem? hy))
              have y3 := kL_ne y2
              have svW := hE.out _ hP.out
              obtain ⟨g, oe, ce', ee, jc, c0, c1, c2⟩ := svW.cells hy
              rw [hneH.out] at ee
              obtain ⟨rfl, rfl⟩ : pe = some ⟨g, oe, none⟩ ∧ ce = ce' := by injection ee with a1 a2 a3; exact ⟨a1, a3⟩
              have bRW : Below V.heap.size V _ := bR.out.trans (hP.out.mono bR.out.size)
              have cn := hcn.out _ bRW
              have y3n : y.2.2 ≠ nm := fun q => y3 (y1.trans q.symm)
              have hHas : Hid (∀ nq, Calls Tryd.prog 11 #[.pointer (some ⟨gb, 0, none⟩), .int .i64 y.1, .string nm, .string y.2.2] (wr.drewN nq) fun e w' => e = .returned (.bool true) ∧ w' = wr.drewN nq) := fun nq => by
                have := ga_has (hGaH.out (wr.drewN nq) (below_drewN bRW nq)) y2
                rwa [y1] at this
              rw [y1] at c1
              have q1 : (nm.toList == y.2.2.toList) = false := by
                rw [beq_eq_false_iff_ne]
                exact fun q => y3n (ba_ext q.symm)
              have jcI : (j : Int) < (ce : Int) := by omega
              have ndj : Hid (∀ y', j ≠ 0 → ys[j - 1]? = some y' → y' ≠ y) := by
                intro y' h0 h1 e
                have hh := List.pairwise_iff_getElem.1 ndH.out
                obtain ⟨l1, g1⟩ := List.getElem?_eq_some_iff.1 h1
                obtain ⟨l2, g2⟩ := List.getElem?_eq_some_iff.1 hy
                exact hh (j - 1) j l1 l2 (by omega) (by rw [g1, g2]; exact e)
              obtain ⟨y1k, hy1k⟩ : ∃ a, y.1 = a := ⟨_, rfl⟩
              obtain ⟨yt, hyt⟩ : ∃ a, y.2.2 = a := ⟨_, rfl⟩
              rw [hy1k, hyt] at hHas
              rw [hy1k] at c0
              rw [hyt] at c2 q1
              have hInt : Hid (∀ nq, Calls Tryd.prog 12 #[.pointer (some ⟨gb, 0, none⟩), .string yt] (wr.drewN nq) (RwE (bw (kL L) yt) (wr.drewN nq))) := fun nq => by
                have hg := hGaH.out (wr.drewN nq) (below_drewN bRW nq)
                exact ga_into hg (by omega) yt (by have := (ga_ok hg y2).2.2; rw [hyt] at this; exact this)
              have svP := hE.out _ hP.out
              clear svW ee bRW
              cases j with
              | zero =>
                clear svP
                rw [Nat.zero_mul, Nat.add_zero] at c0 c1 c2
                go_wp2_with fail
                go_quiet ((go_at_call 11; exact Calls.quiet_of_same (hHas.out _)))
                go_wp2_with fail
                refine (hInt.out nq).mono ?_
                rintro e w4 ⟨vb, zs, rfl, svb, _, memb, hb4, hlb⟩
                have hyz : Hid (y ∈ zs) := (memb y).2 (by unfold bw; rw [if_pos hyt]; exact y2)
                have b34 : Hid (Below w3.heap.size w3 w4) := (below_drewN hP.out nq).trans (hb4.mono (below_drewN hP.out nq).size)
                have hZ : Hid (∀ W, Below w4.heap.size w4 W → Eg.SV W vb zs) := fun W bW => svb.mv (F := fun _ => False) (Mv.below bW) (fun _ _ q => q)
                have hYc : Hid (∀ W, Below w4.heap.size w4 W → W.cell? ⟨g, oe, none⟩ = some (.int .i64 y1k) ∧ W.cell? ⟨g, oe + 1, none⟩ = some (.string nm) ∧ W.cell? ⟨g, oe + 2, none⟩ = some (.string yt)) := fun W bW =>
                  have bd := (hb4.mono (Nat.le_refl _)).trans (bW.mono hb4.size)
                  ⟨bcell bd (cell_lt c0) c0, bcell bd (cell_lt c1) c1, bcell bd (cell_lt c2) c2⟩
                obtain ⟨pb, cb, rfl⟩ := svb.shape
                obtain ⟨nz, hnz⟩ : ∃ nz, zs.length = nz := ⟨_, rfl⟩
                have hnzH := hidP hnz
                rw [hnz] at hZ hlb
                clear hInt hHas svb memb hb4 hnz c0 c1 c2 cn hP
                rw [hnzH.out]
                go_wp2_with fail
                go_loopw [9, 10] (fun th i wq => ∃ (m : Nat) (t : Bool), m ≤ nz ∧ th = .bool t ∧ i = .int .i64 m ∧ Hid (t = true ∨ ∃ a, m ≤ a ∧ zs[a]? = some y) ∧ Hid (Below w4.heap.size w4 wq)) (fun _ i _ => nz - (intOf i).toNat)
                case atStart => exact ⟨0, false, by omega, rfl, rfl, .inr (by obtain ⟨a, ha, e⟩ := List.getElem_of_mem hyz.out; exact ⟨a, Nat.zero_le _, by rw [← e]; exact List.getElem?_eq_getElem ha⟩), Below.refl _ _⟩
                case round =>
                  obtain ⟨m, t, hm, rfl, rfl, hT, hR⟩ := hrel
                  by_cases hlt4 : m < nz
                  · have hkI4 : (m : Int) < (nz : Int) := by omega
                    obtain ⟨z, hz⟩ : ∃ z, zs[m]? = some z := ⟨_, List.getElem?_eq_getElem (by rw [hnzH.out]; exact hlt4)⟩
                    obtain ⟨d0, d1, d2⟩ := hYc.out _ hR.out
                    have svz := hZ.out _ hR.out
                    obtain ⟨gz, oz, cz', ez, jz, z0, z1, z2⟩ := svz.cells hz
                    rw [hnzH.out] at ez
                    obtain ⟨rfl, rfl⟩ : pb = some ⟨gz, oz, none⟩ ∧ cb = cz' := by injection ez with a1 a2 a3; exact ⟨a1, a3⟩
                    have hRn : Hid (∀ nq, Below w4.heap.size w4 (wr.drewN nq)) := fun nq => below_drewN hR.out nq
                    clear svz ez
                    cases t with
                    | true =>
                      go_wp2_with fail
                      go_quiet (fail)
                      go_wp2_with fail
                      exact ⟨⟨m + 1, true, by omega, rfl, by go_num, .inl rfl, hRn.out _⟩, by simp [intOf]; omega⟩
                    | false =>
                      have hT1 : Hid (∀ b : Bool, (z = y → b = true) → b = true ∨ ∃ a, m + 1 ≤ a ∧ zs[a]? = some y) := fun b hb => by
                        rcases hT.out with q | ⟨a, h1, h2⟩
                        · cases q
                        · by_cases e : a = m
                          · subst e
                            rw [hz] at h2; injection h2 with h2
                            exact .inl (hb h2)
                          · exact .inr ⟨a, by omega, h2⟩
                      have hm3 : Tryd.prog.eqGuardType Tryd.prog.depth 37 = false := by kernel_rfl
                      obtain ⟨r, hr⟩ : ∃ r, (z.1 == y1k && z.2.1.toList == nm.toList && z.2.2.toList == yt.toList) = r := ⟨_, rfl⟩
                      have qE : ∀ w, (binOp .eql 37 (.agg #[.int .i64 z.1, .string z.2.1, .string z.2.2]) (.agg #[.int .i64 y1k, .string nm, .string yt])).run Tryd.prog w = .ok (.bool r) w := fun w => by rw [eqE_run, hr]
                      have hT2 := hidP (hT1.out r (fun e => by rw [← hr, eqE_iff, e, hy1k, y1, hyt]))
                      clear hr hT1
                      go_wp2_with fail
                      go_quiet (fail)
                      go_wp2_with fail
                      exact ⟨⟨m + 1, r, by omega, rfl, by go_num, hT2, hRn.out _⟩, by simp [intOf]; omega⟩
                  · have hme : m = nz := by omega
                    subst hme
                    have hkI4 : ¬ (m : Int) < (m : Int) := by omega
                    have hkd4 : decide ((m : Int) < (m : Int)) = false := decide_eq_false hkI4
                    have ht : t = true := by
                      rcases hT.out with q | ⟨a, h1, h2⟩
                      · exact q
                      · have := (List.getElem?_eq_some_iff.1 h2).1
                        rw [hnzH.out] at this; omega
                    subst ht
                    have fin : Hid (Below w3.heap.size w3 wr) := b34.out.trans (hR.out.mono b34.out.size)
                    clear hT hR
                    go_wp2_with fail
                    exact ⟨⟨0 + 1, by omega, by go_num, fin⟩, by simp [intOf]; omega⟩
              | succ j' =>
                obtain ⟨yp, hyp⟩ : ∃ yp, ys[j']? = some yp := ⟨_, List.getElem?_eq_getElem (by rw [hneH.out]; omega)⟩
                obtain ⟨gp, op, cp, ep, jp, p0, p1, p2⟩ := svP.cells hyp
                rw [hneH.out] at ep
                obtain ⟨rfl, rfl, rfl⟩ : g = gp ∧ oe = op ∧ ce = cp := by injection ep with a1 a2 a3; injection a1 with a1; injection a1 with b1 b2; exact ⟨b1, b2, a3⟩
                have hnep := ndj.out yp (by omega) (by rw [Nat.add_sub_cancel]; exact hyp)
                have hm3 : Tryd.prog.eqGuardType Tryd.prog.depth 37 = false := by kernel_rfl
                have qP : ∀ w, (binOp .eql 37 (.agg #[.int .i64 yp.1, .string yp.2.1, .string yp.2.2]) (.agg #[.int .i64 y1k, .string nm, .string yt])).run Tryd.prog w = .ok (.bool false) w := fun w => by
                  have e : (yp.1 == y1k && yp.2.1.toList == nm.toList && yp.2.2.toList == yt.toList) = false := by
                    cases q : (yp.1 == y1k && yp.2.1.toList == nm.toList && yp.2.2.toList == yt.toList)
                    · rfl
                    · have := eqE_iff.1 q
                      rw [← hy1k, ← y1, ← hyt] at this
                      exact absurd this hnep
                  rw [eqE_run, e]
                have hj0 : (0 : Int) < ((j' + 1 : Nat) : Int) := by omega
                have hj1 : ((j' + 1 : Nat) : Int) - 1 = (j' : Int) := by omega
                have jpI : (j' : Int) < (ce : Int) := by omega
                clear svP ep hyp ndj
                go_wp2_with fail
                go_quiet ((go_at_call 11; exact Calls.quiet_of_same (hHas.out _)))
                go_wp2_with fail
                refine (hInt.out nq).mono ?_
                rintro e w4 ⟨vb, zs, rfl, svb, _, memb, hb4, hlb⟩
                have hyz : Hid (y ∈ zs) := (memb y).2 (by unfold bw; rw [if_pos hyt]; exact y2)
                have b34 : Hid (Below w3.heap.size w3 w4) := (below_drewN hP.out nq).trans (hb4.mono (below_drewN hP.out nq).size)
                have hZ : Hid (∀ W, Below w4.heap.size w4 W → Eg.SV W vb zs) := fun W bW => svb.mv (F := fun _ => False) (Mv.below bW) (fun _ _ q => q)
                have hYc : Hid (∀ W, Below w4.heap.size w4 W → W.cell? ⟨g, oe + (j' + 1) * 3, none⟩ = some (.int .i64 y1k) ∧ W.cell? ⟨g, oe + (j' + 1) * 3 + 1, none⟩ = some (.string nm) ∧ W.cell? ⟨g, oe + (j' + 1) * 3 + 2, none⟩ = some (.string yt)) := fun W bW =>
                  have bd := (hb4.mono (Nat.le_refl _)).trans (bW.mono hb4.size)
                  ⟨bcell bd (cell_lt c0) c0, bcell bd (cell_lt c1) c1, bcell bd (cell_lt c2) c2⟩
                obtain ⟨pb, cb, rfl⟩ := svb.shape
                obtain ⟨nz, hnz⟩ : ∃ nz, zs.length = nz := ⟨_, rfl⟩
                have hnzH := hidP hnz
                rw [hnz] at hZ hlb
                clear hInt hHas svb memb hb4 hnz c0 c1 c2 cn hP
                rw [hnzH.out]
                go_wp2_with fail
                go_loopw [9, 10] (fun th i wq => ∃ (m : Nat) (t : Bool), m ≤ nz ∧ th = .bool t ∧ i = .int .i64 m ∧ Hid (t = true ∨ ∃ a, m ≤ a ∧ zs[a]? = some y) ∧ Hid (Below w4.heap.size w4 wq)) (fun _ i _ => nz - (intOf i).toNat)
                case atStart => exact ⟨0, false, by omega, rfl, rfl, .inr (by obtain ⟨a, ha, e⟩ := List.getElem_of_mem hyz.out; exact ⟨a, Nat.zero_le _, by rw [← e]; exact List.getElem?_eq_getElem ha⟩), Below.refl _ _⟩
                case round =>
                  obtain ⟨m, t, hm, rfl, rfl, hT, hR⟩ := hrel
                  by_cases hlt4 : m < nz
                  · have hkI4 : (m : Int) < (nz : Int) := by omega
                    obtain ⟨z, hz⟩ : ∃ z, zs[m]? = some z := ⟨_, List.getElem?_eq_getElem (by rw [hnzH.out]; exact hlt4)⟩
                    obtain ⟨d0, d1, d2⟩ := hYc.out _ hR.out
                    have svz := hZ.out _ hR.out
                    obtain ⟨gz, oz, cz', ez, jz, z0, z1, z2⟩ := svz.cells hz
                    rw [hnzH.out] at ez
                    obtain ⟨rfl, rfl⟩ : pb = some ⟨gz, oz, none⟩ ∧ cb = cz' := by injection ez with a1 a2 a3; exact ⟨a1, a3⟩
                    have hRn : Hid (∀ nq, Below w4.heap.size w4 (wr.drewN nq)) := fun nq => below_drewN hR.out nq
                    clear svz ez
                    cases t with
                    | true =>
                      go_wp2_with fail
                      go_quiet (fail)
                      go_wp2_with fail
                      exact ⟨⟨m + 1, true, by omega, rfl, by go_num, .inl rfl, hRn.out _⟩, by simp [intOf]; omega⟩
                    | false =>
                      have hT1 : Hid (∀ b : Bool, (z = y → b = true) → b = true ∨ ∃ a, m + 1 ≤ a ∧ zs[a]? = some y) := fun b hb => by
                        rcases hT.out with q | ⟨a, h1, h2⟩
                        · cases q
                        · by_cases e : a = m
                          · subst e
                            rw [hz] at h2; injection h2 with h2
                            exact .inl (hb h2)
                          · exact .inr ⟨a, by omega, h2⟩
                      have hm3 : Tryd.prog.eqGuardType Tryd.prog.depth 37 = false := by kernel_rfl
                      obtain ⟨r, hr⟩ : ∃ r, (z.1 == y1k && z.2.1.toList == nm.toList && z.2.2.toList == yt.toList) = r := ⟨_, rfl⟩
                      have qE : ∀ w, (binOp .eql 37 (.agg #[.int .i64 z.1, .string z.2.1, .string z.2.2]) (.agg #[.int .i64 y1k, .string nm, .string yt])).run Tryd.prog w = .ok (.bool r) w := fun w => by rw [eqE_run, hr]
                      have hT2 := hidP (hT1.out r (fun e => by rw [← hr, eqE_iff, e, hy1k, y1, hyt]))
                      clear hr hT1
                      go_wp2_with fail
                      go_quiet (fail)
                      go_wp2_with fail
                      exact ⟨⟨m + 1, r, by omega, rfl, by go_num, hT2, hRn.out _⟩, by simp [intOf]; omega⟩
                  · have hme : m = nz := by omega
                    subst hme
                    have hkI4 : ¬ (m : Int) < (m : Int) := by omega
                    have hkd4 : decide ((m : Int) < (m : Int)) = false := decide_eq_false hkI4
                    have ht : t = true := by
                      rcases hT.out with q | ⟨a, h1, h2⟩
                      · exact q
                      · have := (List.getElem?_eq_some_iff.1 h2).1
                        rw [hnzH.out] at this; omega
                    subst ht
                    have fin : Hid (Below w3.heap.size w3 wr) := b34.out.trans (hR.out.mono b34.out.size)
                    clear hT hR
                    go_wp2_with fail
                    exact ⟨⟨(j' + 1) + 1, by omega, by go_num, fin⟩, by simp [intOf]; omega⟩
            · have hje : j = ne := by omega
              subst hje
              have hkI3 : ¬ (j : Int) < (j : Int) := by omega
              have hkd3 : decide ((j : Int) < (j : Int)) = false := decide_eq_false hkI3
              have bRW : Below V.heap.size V wr := bR.out.trans (hP.out.mono bR.out.size)
              have cn := hcn.out _ bRW
              have hIn2 := ga_into (hGaH.out _ bRW) (by omega) nm hnmL.out
              have bRH := hidP bRW
              clear hP bRW hE memH ndH hneH
              go_wp2_with fail
              refine hIn2.mono ?_
              rintro e w5 ⟨vb, zs, rfl, svb, _, memb, hb5, hlb⟩
              have b5 : Hid (Below V.heap.size V w5) := bRH.out.trans (hb5.mono bRH.out.size)
              have hZ : Hid (∀ W, Below w5.heap.size w5 W → Eg.SV W vb zs) := fun W bW => svb.mv (F := fun _ => False) (Mv.below bW) (fun _ _ q => q)
              obtain ⟨pb, cb, rfl⟩ := svb.shape
              obtain ⟨nz, hnz⟩ : ∃ nz, zs.length = nz := ⟨_, rfl⟩
              have hnzH := hidP hnz
              have memH := hidP memb
              rw [hnz] at hZ hlb
              clear hIn2 svb memb hb5 hnz cn bRH
              rw [hnzH.out]
              go_wp2_with fail
              go_loopw [12] (fun i wq => ∃ m : Nat, m ≤ nz ∧ i = .int .i64 m ∧ Hid (Below w5.heap.size w5 wq)) (fun i _ => nz - (intOf i).toNat)
              case atStart => exact ⟨0, by omega, rfl, Below.refl _ _⟩
              case round =>
                obtain ⟨m, hm, rfl, hR⟩ := hrel
                by_cases hlt5 : m < nz
                · have hkI5 : (m : Int) < (nz : Int) := by omega
                  obtain ⟨z, hz⟩ : ∃ z, zs[m]? = some z := ⟨_, List.getElem?_eq_getElem (by rw [hnzH.out]; exact hlt5)⟩
                  obtain ⟨z3, z4⟩ := bw_ne ((memH.out z).1 (List.mem_of_getElem? hz))
                  have svz := hZ.out _ hR.out
                  obtain ⟨gz, oz, cz', ez, jz, z0, z1, z2⟩ := svz.cells hz
                  rw [hnzH.out] at ez
                  obtain ⟨rfl, rfl⟩ : pb = some ⟨gz, oz, none⟩ ∧ cb = cz' := by injection ez with a1 a2 a3; exact ⟨a1, a3⟩
                  have bRW : Below V.heap.size V wr := b5.out.trans (hR.out.mono b5.out.size)
                  have cn := hcn.out _ bRW
                  have hHas : Hid (∀ nq, Calls Tryd.prog 11 #[.pointer (some ⟨gb, 0, none⟩), .int .i64 z.1, .string z.2.1, .string nm] (wr.drewN nq) fun e w' => e = .returned (.bool true) ∧ w' = wr.drewN nq) := fun nq => by
                    have := ga_has (hGaH.out (wr.drewN nq) (below_drewN bRW nq)) z4
                    rwa [z3] at this
                  rw [z3] at z2
                  have jzI : (m : Int) < (cb : Int) := by omega
                  have hRn : Hid (∀ nq, Below w5.heap.size w5 (wr.drewN nq)) := fun nq => below_drewN hR.out nq
                  clear svz ez bRW hR
                  go_wp2_with fail
                  go_quiet ((go_at_call 11; exact Calls.quiet_of_same (hHas.out _)))
                  go_wp2_with fail
                  exact ⟨⟨m + 1, by omega, by go_num, hRn.out _⟩, by simp [intOf]; omega⟩
                · have hme : m = nz := by omega
                  subst hme
                  have hkI5 : ¬ (m : Int) < (m : Int) := by omega
                  have hkd5 : decide ((m : Int) < (m : Int)) = false := decide_eq_false hkI5
                  have fin : Hid (Below V.heap.size V wr) := b5.out.trans (hR.out.mono b5.out.size)
                  clear hR
                  go_wp2_with fail
                  exact ⟨⟨i + 1, by omega, by go_num, fin⟩, by simp [intOf]; omega⟩
        · have hie : i = k := by omega
          subst hie
          have hkI2 : ¬ (i : Int) < (i : Int) := by omega
          have hkd2 : decide ((i : Int) < (i : Int)) = false := decide_eq_false hkI2
          have fin : Hid (Below w.heap.size w wr) := bV.out.trans (hQ.out.mono bV.out.size)
          clear hQ
          go_wp2_with fail
          go_ret
          exact ⟨rfl, fin.out⟩

end Go.Proofs.YtcfclknfnadgcaaDoor
