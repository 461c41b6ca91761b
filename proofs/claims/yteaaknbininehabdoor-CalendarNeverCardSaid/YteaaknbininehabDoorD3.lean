/- The contract of package calendar's daysSince: a row of days. -/
import Derived.Test.YteaaknbininehabDoorD1
import Derived.Test.YteaaknbininehabDoorD2
namespace Go.Proofs.YteaaknbininehabDoor
open Go.RowKit Go.Shelf
attribute [local go_sem] Oper.semAt_some
set_option maxHeartbeats 400000 in
theorem month_any (y m : Int) (w : World) :
    Calls Tryd.prog 58 #[.int .i64 y, .int .i64 m] w fun e w' => e = .returned (.func (.func 77) #[] #[.pointer (some ⟨w.heap.size, 0, none⟩), .pointer (some ⟨w.heap.size + 1, 0, none⟩)]) ∧ w' = (w.alloc (.cells #[.int .i64 y] 3)).alloc (.cells #[.int .i64 m] 3) := by
  go_enter Tryd.func58, Tryd.ntmps58
  go_wp2
  go_ret
  exact ⟨rfl, rfl⟩
set_option maxHeartbeats 400000 in
theorem pickD_any (a b : Nat) (lb lc : Array Value) (w : World) :
    Calls Tryd.prog 57 #[.func (.func a) #[] lb, .func (.func b) #[] lc] w fun e w' => e = .returned (.func (.func 76) #[] #[.pointer (some ⟨w.heap.size, 0, none⟩), .pointer (some ⟨w.heap.size + 1, 0, none⟩)]) ∧ w' = (w.alloc (.cells #[.func (.func a) #[] lb] 110)).alloc (.cells #[.func (.func b) #[] lc] 90) := by
  go_enter Tryd.func57, Tryd.ntmps57
  go_wp2
  go_ret
  exact ⟨rfl, rfl⟩
/-- What daysSince's function holds. -/
structure DayX (E : Nat → Prop) (W : World) (bs bc bf by' l : Nat) (S : Nat → Sl) (c : Cal.C7) (y0 m0 d0 : Int) : Prop where
  box : CalBox E W bc S c
  pin : CalPin E W S c
  gl : Gl E W
  es : ¬ E bs
  s0 : W.cell? ⟨bs, 0, none⟩ = some (.int .i64 y0)
  s1 : W.cell? ⟨bs, 1, none⟩ = some (.int .i64 m0)
  s2 : W.cell? ⟨bs, 2, none⟩ = some (.int .i64 d0)
  fr : Bx E W bf (.int .i64 (Civ.num y0 m0 d0))
  yl : Bx E W by' (.func (.yield l) #[] #[])
theorem DayX.mv {E E' : Nat → Prop} {W V : World} {bs bc bf by' l : Nat} {S : Nat → Sl} {c : Cal.C7} {y0 m0 d0 : Int} (h : DayX E W bs bc bf by' l S c y0 m0 d0) (m : Mv E W V) (g : Gr E W E') : DayX E' V bs bc bf by' l S c y0 m0 d0 :=
  ⟨h.box.mv m g, h.pin.mv m g, h.gl.mv m g, g.free (cell_lt h.s0) h.es, m.cell h.es h.s0, m.cell h.es h.s1, m.cell h.es h.s2, h.fr.mv m g, h.yl.mv m g⟩
theorem datX_new {E : Nat → Prop} {U : World} {bc : Nat} {S : Nat → Sl} {c : Cal.C7} (y m : Int) (hb : CalBox E U bc S c) (hp : CalPin E U S c) (hg : Gl E U) (low : ∀ k, E k → k < U.heap.size) :
    DatX E ((((U.alloc (.cells #[.int .i64 y] 3)).alloc (.cells #[.int .i64 m] 3)).alloc (.cells #[.func (.func 77) #[] #[.pointer (some ⟨U.heap.size, 0, none⟩), .pointer (some ⟨U.heap.size + 1, 0, none⟩)]] 110)).alloc (.cells #[.func (.func 59) #[] #[.pointer (some ⟨bc, 0, none⟩)]] 90)) (U.heap.size + 1 + 1) (U.heap.size + 1 + 1 + 1) U.heap.size (U.heap.size + 1) bc S c y m := by
  have nE : ∀ k, U.heap.size ≤ k → ¬ E k := fun k hk h => by have := low k h; omega
  have mv : Mv E U ((((U.alloc (.cells #[.int .i64 y] 3)).alloc (.cells #[.int .i64 m] 3)).alloc (.cells #[.func (.func 77) #[] #[.pointer (some ⟨U.heap.size, 0, none⟩), .pointer (some ⟨U.heap.size + 1, 0, none⟩)]] 110)).alloc (.cells #[.func (.func 59) #[] #[.pointer (some ⟨bc, 0, none⟩)]] 90)) := (((Mv.alloc _ _ _).trans' (Mv.alloc _ _ _)).trans' (Mv.alloc _ _ _)).trans' (Mv.alloc _ _ _)
  refine ⟨⟨?_, nE _ (by omega)⟩, ⟨?_, nE _ (by omega)⟩, ⟨?_, nE _ (by omega)⟩, ⟨?_, nE _ (by omega)⟩, hb.mv mv (Gr.refl _ _), hp.mv mv (Gr.refl _ _), hg.mv mv (Gr.refl _ _)⟩
  all_goals repeat (first | exact cell_at (by simp) rfl | rw [cell_old (by simp <;> omega)])
theorem datX_ex {E : Nat → Prop} {U : World} {bc : Nat} {S : Nat → Sl} {c : Cal.C7} (y m : Int) (hb : CalBox E U bc S c) (hp : CalPin E U S c) (hg : Gl E U) (low : ∀ k, E k → k < U.heap.size) :
    ∃ w5, ((((U.alloc (.cells #[.int .i64 y] 3)).alloc (.cells #[.int .i64 m] 3)).alloc (.cells #[.func (.func 77) #[] #[.pointer (some ⟨U.heap.size, 0, none⟩), .pointer (some ⟨U.heap.size + 1, 0, none⟩)]] 110)).alloc (.cells #[.func (.func 59) #[] #[.pointer (some ⟨bc, 0, none⟩)]] 90)) = w5 ∧ DatX E w5 (U.heap.size + 1 + 1) (U.heap.size + 1 + 1 + 1) U.heap.size (U.heap.size + 1) bc S c y m ∧ Mv E U w5 ∧ Mv (fun k => ¬ E k ∧ U.heap.size ≤ k) U w5 :=
  ⟨_, rfl, datX_new y m hb hp hg low, (((Mv.alloc _ _ _).trans' (Mv.alloc _ _ _)).trans' (Mv.alloc _ _ _)).trans' (Mv.alloc _ _ _), (((Mv.alloc _ _ _).trans' (Mv.alloc _ _ _)).trans' (Mv.alloc _ _ _)).trans' (Mv.alloc _ _ _)⟩
set_option maxRecDepth 100000 in
set_option maxHeartbeats 8000000 in
theorem day_row (E : Nat → Prop) (W : World) (bs bc : Nat) (S : Nat → Sl) (c : Cal.C7) (y0 m0 d0 : Int) (hbx : CalBox E W bc S c) (hpn : CalPin E W S c) (hgl : Gl E W) (es : ¬ E bs) (s0 : W.cell? ⟨bs, 0, none⟩ = some (.int .i64 y0)) (s1 : W.cell? ⟨bs, 1, none⟩ = some (.int .i64 m0)) (s2 : W.cell? ⟨bs, 2, none⟩ = some (.int .i64 d0)) (ho : CalOk c) (hv : Civ.vldB y0 m0 d0 = true) :
    Row Tryd.prog 55 #[.pointer (some ⟨bs, 0, none⟩), .pointer (some ⟨bc, 0, none⟩)] encI (Cal.ds c y0 m0 d0) E W := by
  obtain ⟨v1, v2, v3, v4, v5, v6⟩ := Civ.vldB_iff.1 hv
  have nb := Civ.num_bd hv
  have hV : Hid (Civ.vldB y0 m0 d0 = true) := hv
  clear hv
  intro l J Jx E1 V m g hJ hJx hY h0
  have hlow := hJ.low _ _ _ h0
  refine (callsIn_wide (n := 5)).1 ?_
  refine callsIn_of_wp_marks Tryd.func55 rfl trivial ?_ rfl
  simp only [Tryd.ntmps55, List.size_toArray, List.length_cons, List.length_nil, Nat.reduceAdd, Nat.reduceSub, Array.replicate_succ, Array.replicate_zero, List.push_toArray, List.append_toArray, List.nil_append, List.cons_append]
  have mA : Mv E1 V (V.alloc (.cells #[.func (.yield l) #[] #[]] 107)) := Mv.alloc _ _ _
  have es1 : ¬ E1 bs := g.free (cell_lt s0) es
  have q0 := mA.cell es1 (m.cell es s0)
  have q1 := mA.cell es1 (m.cell es s1)
  have q2 := mA.cell es1 (m.cell es s2)
  gi_wp2_with fail
  refine ⟨trivial, (callsIn_wide.2 (days_yes y0 m0 d0 _ ((hgl.mv m g).mv mA (Gr.refl _ _)).len hV.out)).mono ?_⟩
  rintro e w1 ⟨rfl, hb1⟩
  have m1 : Mv E1 V w1 := mA.trans' (Mv.below hb1)
  have low1 : ∀ k, E1 k → k < w1.heap.size := fun k hk => Nat.lt_of_lt_of_le (hlow k hk) m1.size
  have mB : Mv E1 V (w1.alloc (.cells #[.int .i64 (Civ.num y0 m0 d0)] 3)) := m1.trans' (Mv.alloc _ _ _)
  have hx0 : DayX E1 (w1.alloc (.cells #[.int .i64 (Civ.num y0 m0 d0)] 3)) bs bc w1.heap.size V.heap.size l S c y0 m0 d0 :=
    ⟨(hbx.mv m g).mv mB (Gr.refl _ _), (hpn.mv m g).mv mB (Gr.refl _ _), (hgl.mv m g).mv mB (Gr.refl _ _), es1, mB.cell es1 (m.cell es s0), mB.cell es1 (m.cell es s1), mB.cell es1 (m.cell es s2), .new _ low1, (Bx.new _ hlow : Bx E1 (V.alloc (.cells #[.func (.yield l) #[] #[]] 107)) V.heap.size (.func (.yield l) #[] #[])).mv ((Mv.below hb1).trans' (Mv.alloc _ _ _)) (Gr.refl _ _)⟩
  clear q0 q1 q2
  have k1 := hx0.box.c1
  have ks := hx0.s0
  have kl := hx0.gl.lim 1 2200 rfl
  gi_wp2_with fail
  refine ⟨trivial, (callsIn_wide.2 (numbers_any c.year _ y0 2200 E1 _ hx0.pin.p1 (fun k hk => by have := low1 k hk; simp; omega) ho.o1 (by omega) (by omega) (by omega) (by omega))).mono ?_⟩
  rintro e w2 ⟨lb, rfl, hb2, hrow1⟩
  gi_wp2_with fail
  have hx1 := hx0.mv (Mv.below hb2) (Gr.refl _ _)
  have m2 : Mv E1 V w2 := mB.trans' (Mv.below hb2)
  have j1 : J (Cal.ds c y0 m0 d0) E1 w2 := hJ.keep _ _ _ _ h0 (((Mv.alloc _ _ _).trans' (Mv.below hb1)).trans' ((Mv.alloc _ _ _).trans' (Mv.below hb2)))
  have sz1 := m2.size
  clear k1 ks kl hx0 hb2 hb1 mA mB m1 low1
  have tX : Ter V.heap.size (fun (c : Code) E2 U => c = Code.ret ∧ Jx () E2 U) := (hJx.comp (fun _ => ())).and (fun c => c = Code.ret)
  have tI1 : Ter w2.heap.size (fun (rest : List Int) E2 U => (∀ h ∈ rest, y0 ≤ h ∧ h ≤ 2200) ∧ J (rest.flatMap fun y => Cal.dsY c (Civ.num y0 m0 d0) (Cal.m1 y0 m0 y) y) E2 U) := ((hJ.up sz1).comp (fun rest => List.flatMap (fun y => Cal.dsY c (Civ.num y0 m0 d0) (Cal.m1 y0 m0 y) y) rest)).and _
  refine loop_out (gf := 87) (lb := lb) rfl (enters_of Tryd.func87 (by kernel_rfl) rfl) hrow1 (fun _ => rfl)
    (fun rest E2 U => (∀ h ∈ rest, y0 ≤ h ∧ h ≤ 2200) ∧ J (rest.flatMap fun y => Cal.dsY c (Civ.num y0 m0 d0) (Cal.m1 y0 m0 y) y) E2 U) (fun c E2 U => c = Code.ret ∧ Jx () E2 U) tI1 (tX.up sz1)
    ⟨fun y hy => by have := (Cal.mem_rng _ _ _).1 (List.mem_filter.1 hy).1; omega, j1⟩ ?round ?done ?stop
  case round =>
    intro l1 hl1 y' rest E2 U hi hm hg hEl hrec
    have hlt : l1 < U.heap.size := by obtain ⟨r, hr⟩ := hrec; exact (Array.getElem?_eq_some_iff.1 hr).1
    simp only [encI]
    gi_wp2
    refine ⟨⟨Mv.alloc _ _ _, ?_⟩, fun U2 tw => ?_⟩
    · exact Below.heap_alloc _ _ _ hlt
    have low1 := tI1.low _ _ _ hi
    obtain ⟨⟨hh, hi2⟩, hm2⟩ := tw.go tI1 hi (Mv.alloc _ _ _) hm (Nat.le_refl _) hl1 hEl
    have hx2 := hx1.mv hm2 hg
    have low2 := hJ.low _ _ _ hi2
    have hr2 := tw.here
    have hh0 := hh y' (by simp)
    have hhr : ∀ y ∈ rest, y0 ≤ y ∧ y ≤ 2200 := fun y hy => hh y (by simp [hy])
    have sz2 := hm2.size
    have hby : Bx E2 U2 U.heap.size (.int .i64 y') := ⟨tw.mv.cell (by show ¬ U.heap.size = l1; omega) (cell_at rfl rfl), fun h => by have := low1 _ h; omega⟩
    rw [List.flatMap_cons] at hi2
    clear hi hm hrec
    have ky := hby.c
    have ks := hx2.s0
    have km := hx2.s1
    have k2 := hx2.box.c2
    have kl := hx2.gl.lim 2 1 rfl
    have kn := hx2.gl.lim 3 12 rfl
    have hm1 : 1 ≤ Cal.m1 y0 m0 y' ∧ Cal.m1 y0 m0 y' ≤ 12 := by unfold Cal.m1; split <;> omega
    have hyy : (y' = y0 ∧ Hid (Cal.m1 y0 m0 y' = m0)) ∨ (¬ y' = y0 ∧ Hid (Cal.m1 y0 m0 y' = 1)) := by
      by_cases h : y' = y0
      · exact .inl ⟨h, by show _ = _; unfold Cal.m1; rw [if_pos h]⟩
      · exact .inr ⟨h, by show _ = _; unfold Cal.m1; rw [if_neg h]⟩
    rcases hyy with ⟨hyc, hm1e⟩ | ⟨hyc, hm1e⟩
    all_goals
      gi_wp2_with fail
      clear hyc
      refine ⟨trivial, (CallsIn.inRound l1 (callsIn_wide.2 (numbers_any c.month _ _ 12 E2 _ hx2.pin.p2 low2 ho.o2 (by omega) (by omega) (by omega) (by omega)))).mono ?_⟩
      rintro e w3 ⟨lb2, rfl, hb2, hrow2⟩
      gi_wp2_with fail
      rw [← hm1e.out] at hrow2
      have m3 : Mv E2 U2 w3 := Mv.below hb2
      have hx3 := hx2.mv m3 (Gr.refl _ _)
      have hby3 := hby.mv m3 (Gr.refl _ _)
      have sz3 := m3.size
      have j2 : J (Cal.dsY c (Civ.num y0 m0 d0) (Cal.m1 y0 m0 y') y' ++ rest.flatMap fun y => Cal.dsY c (Civ.num y0 m0 d0) (Cal.m1 y0 m0 y) y) E2 w3 := hJ.keep _ _ _ _ hi2 (Mv.below hb2)
      have hr3 : ∃ r, w3.heap[l1]? = some (.loop r) := by
        obtain ⟨r, hr⟩ := hr2
        exact ⟨r, (m3.block l1 (Array.getElem?_eq_some_iff.1 hr).1 hEl).trans hr⟩
      clear ky ks km k2 kl kn hb2
      have tI2 : Ter w3.heap.size (fun (rest2 : List Int) E3 U => (∀ h ∈ rest2, 1 ≤ h ∧ h ≤ 12) ∧ J (rest2.flatMap (Cal.dsM c (Civ.num y0 m0 d0) y') ++ rest.flatMap fun y => Cal.dsY c (Civ.num y0 m0 d0) (Cal.m1 y0 m0 y) y) E3 U) := ((hJ.up (by omega)).comp (fun (rest2 : List Int) => rest2.flatMap (Cal.dsM c (Civ.num y0 m0 d0) y') ++ rest.flatMap fun y => Cal.dsY c (Civ.num y0 m0 d0) (Cal.m1 y0 m0 y) y)).and _
      refine loop_in (l₀ := l1) hr3 (gf := 87) (lb := lb2) rfl (enters_of Tryd.func87 (by kernel_rfl) rfl) hrow2 (fun _ => rfl)
        (fun rest2 E3 U => (∀ h ∈ rest2, 1 ≤ h ∧ h ≤ 12) ∧ J (rest2.flatMap (Cal.dsM c (Civ.num y0 m0 d0) y') ++ rest.flatMap fun y => Cal.dsY c (Civ.num y0 m0 d0) (Cal.m1 y0 m0 y) y) E3 U) (fun c E2 U => c = Code.ret ∧ Jx () E2 U) tI2 (tX.up (by omega))
        ⟨fun y hy => by have := (Cal.mem_rng _ _ _).1 (List.mem_filter.1 hy).1; omega, j2⟩ ?_ ?_ ?_
      · intro l2 hl2 mo rest2 E3 U' hi hm hg hEl2 hrec
        simp only [encI]
        gi_wp2
        refine ⟨⟨Mv.refl _ _, trivial⟩, fun U3 tw2 => ?_⟩
        obtain ⟨⟨hmo, hi3⟩, hm3⟩ := tw2.go tI2 hi (Mv.refl _ _) hm (Nat.le_refl _) hl2 hEl2
        have hx4 := hx3.mv hm3 hg
        have hby4 := hby3.mv hm3 hg
        have low3 := hJ.low _ _ _ hi3
        have hr4 := tw2.here
        have hmo0 := hmo mo (by simp)
        have hmr : ∀ y ∈ rest2, 1 ≤ y ∧ y ≤ 12 := fun y hy => hmo y (by simp [hy])
        have sz4 := hm3.size
        rw [List.flatMap_cons, List.append_assoc] at hi3
        clear hi hm hrec
        have ky := hby4.c
        gi_wp2_with fail
        refine ⟨trivial, (CallsIn.inRound l2 (callsIn_wide.2 (month_any y' mo _))).mono ?_⟩
        rintro e w4 ⟨rfl, rfl⟩
        gi_wp2_with fail
        refine ⟨trivial, (CallsIn.inRound l2 (callsIn_wide.2 (pickD_any _ _ _ _ _))).mono ?_⟩
        rintro e w5 ⟨rfl, rfl⟩
        gi_wp2_with fail
        obtain ⟨w5, hw5, hdx, m4, m5⟩ := datX_ex y' mo hx4.box hx4.pin hx4.gl low3
        rw [hw5]
        have hmon : Civ.monB y' mo = true := Civ.monB_iff.2 ⟨by omega, by omega, hmo0.1, hmo0.2⟩
        have hrow3 := pickD_row E3 w5 _ _ _ _ bc S c y' mo hdx ho hmon
        have hx5 := hx4.mv m4 (Gr.refl _ _)
        have sz5 := m4.size
        have dm := Civ.dim_bd y' mo
        have j3 := hJ.keep _ _ _ _ hi3 (m5.mono (fun k _ h => ⟨h.1, by omega⟩))
        have hr5 : ∃ r, w5.heap[l2]? = some (.loop r) := by
          obtain ⟨r, hr⟩ := hr4
          exact ⟨r, (m4.block l2 (Array.getElem?_eq_some_iff.1 hr).1 hEl2).trans hr⟩
        clear hw5 ky hdx m5
        have tI3 : Ter w5.heap.size (fun (rest3 : List Int) E4 U => (∀ h ∈ rest3, 1 ≤ h ∧ h ≤ Civ.dim y' mo) ∧ J ((rest3.map (Civ.num y' mo)).filter (Cal.okD c (Civ.num y0 m0 d0)) ++ (rest2.flatMap (Cal.dsM c (Civ.num y0 m0 d0) y') ++ rest.flatMap fun y => Cal.dsY c (Civ.num y0 m0 d0) (Cal.m1 y0 m0 y) y)) E4 U) := ((hJ.up (by omega)).comp (fun (rest3 : List Int) => (rest3.map (Civ.num y' mo)).filter (Cal.okD c (Civ.num y0 m0 d0)) ++ (rest2.flatMap (Cal.dsM c (Civ.num y0 m0 d0) y') ++ rest.flatMap fun y => Cal.dsY c (Civ.num y0 m0 d0) (Cal.m1 y0 m0 y) y))).and _
        refine loop_in (l₀ := l2) hr5 (gf := 76) (lb := #[.pointer (some ⟨U3.heap.size + 1 + 1, 0, none⟩), .pointer (some ⟨U3.heap.size + 1 + 1 + 1, 0, none⟩)]) rfl (enters_of Tryd.func76 (by kernel_rfl) rfl) hrow3 (fun _ => rfl)
          (fun rest3 E4 U => (∀ h ∈ rest3, 1 ≤ h ∧ h ≤ Civ.dim y' mo) ∧ J ((rest3.map (Civ.num y' mo)).filter (Cal.okD c (Civ.num y0 m0 d0)) ++ (rest2.flatMap (Cal.dsM c (Civ.num y0 m0 d0) y') ++ rest.flatMap fun y => Cal.dsY c (Civ.num y0 m0 d0) (Cal.m1 y0 m0 y) y)) E4 U) (fun c E2 U => c = Code.ret ∧ Jx () E2 U) tI3 (tX.up (by omega))
          ⟨fun y hy => by have := (Cal.mem_rng _ _ _).1 (List.mem_filter.1 hy).1; omega, j3⟩ ?_ ?_ ?_
        · intro l3 hl3 dd rest3 E4 U5 hi hm hg4 hEl3 hrec
          have hlt3 : l3 < U5.heap.size := by obtain ⟨r, hr⟩ := hrec; exact (Array.getElem?_eq_some_iff.1 hr).1
          simp only [encD]
          gi_wp2
          refine ⟨⟨Mv.alloc _ _ _, ?_⟩, fun U6 tw3 => ?_⟩
          · exact Below.heap_alloc _ _ _ hlt3
          have low4 := tI3.low _ _ _ hi
          obtain ⟨⟨hdd, hi4⟩, hm4⟩ := tw3.go tI3 hi (Mv.alloc _ _ _) hm (Nat.le_refl _) hl3 hEl3
          have hx6 := hx5.mv hm4 hg4
          have hdd0 := hdd dd (by simp)
          have hdr : ∀ y ∈ rest3, 1 ≤ y ∧ y ≤ Civ.dim y' mo := fun y hy => hdd y (by simp [hy])
          have hvd : Hid (Civ.vldB y' mo dd = true) := Civ.vldB_iff.2 ⟨by omega, by omega, hmo0.1, hmo0.2, hdd0.1, hdd0.2⟩
          have nb2 := Civ.num_bd hvd.out
          have q0 : U6.cell? ⟨U5.heap.size, 0, none⟩ = some (.int .i64 y') := tw3.mv.cell (by show ¬ U5.heap.size = l3; omega) (cell_at rfl rfl)
          have q1 : U6.cell? ⟨U5.heap.size, 1, none⟩ = some (.int .i64 mo) := tw3.mv.cell (by show ¬ U5.heap.size = l3; omega) (cell_at rfl rfl)
          have q2 : U6.cell? ⟨U5.heap.size, 2, none⟩ = some (.int .i64 dd) := tw3.mv.cell (by show ¬ U5.heap.size = l3; omega) (cell_at rfl rfl)
          rw [List.map_cons] at hi4
          clear hi hm hrec
          gi_wp2_with fail
          refine ⟨trivial, (CallsIn.inRound l3 (callsIn_wide.2 (days_yes y' mo dd _ hx6.gl.len hvd.out))).mono ?_⟩
          rintro e w6 ⟨rfl, hb6⟩
          have m6 : Mv E4 U6 w6 := Mv.below hb6
          have hx7 := hx6.mv m6 (Gr.refl _ _)
          have hj6 := hJ.keep _ _ _ _ hi4 (Mv.below hb6)
          have kf := hx7.fr.c
          have kw := hx7.box.c0
          clear q0 q1 q2
          by_cases hle : Civ.num y0 m0 d0 ≤ Civ.num y' mo dd
          · cases hon : Cal.onW c.week (Civ.num y' mo dd)
            · have hok : Cal.okD c (Civ.num y0 m0 d0) (Civ.num y' mo dd) = false := by unfold Cal.okD; rw [hon, Bool.and_false]
              rw [List.filter_cons, hok] at hj6
              gi_wp2_with fail
              refine ⟨trivial, (CallsIn.inRound l3 (callsIn_wide.2 (onW_any c.week _ _ _ hx7.pin.p0.none ho.o0))).mono ?_⟩
              rintro e w7 ⟨rfl, hb7⟩
              gi_wp2_with fail
              refine ⟨fun _ h => (by cases h), ?_⟩
              gi_wp2_with fail
              exact ⟨m6.trans' (Mv.below hb7), E4, Gr.refl _ _, hdr, hJ.keep _ _ _ _ hj6 (Mv.below hb7)⟩
            · have hok : Cal.okD c (Civ.num y0 m0 d0) (Civ.num y' mo dd) = true := by unfold Cal.okD; rw [hon, Bool.and_true]; exact decide_eq_true hle
              rw [List.filter_cons, hok] at hj6
              gi_wp2_with fail
              refine ⟨trivial, (CallsIn.inRound l3 (callsIn_wide.2 (onW_any c.week _ _ _ hx7.pin.p0.none ho.o0))).mono ?_⟩
              rintro e w7 ⟨rfl, hb7⟩
              have hx8 := hx7.mv (Mv.below hb7) (Gr.refl _ _)
              have kyl := hx8.yl.c
              have hj7 := hJ.keep _ _ _ _ hj6 (Mv.below hb7)
              obtain ⟨fn, tmps, assign, body, hy, hR⟩ := hY _ _ E4 w7 hj7
              dsimp only [encI] at hy
              gi_wp2_with fail
              refine (wide_round hR).mono ?_
              rintro e W3 ⟨m9, (⟨rfl, E5, g5, hj5⟩ | ⟨rfl, E5, g5, hj5⟩)⟩
              · gi_wp2_with fail
                exact ⟨(m6.trans' (Mv.below hb7)).trans' m9, E5, g5.mono (m6.trans' (Mv.below (E := E4) hb7)).size, hdr, hj5⟩
              · gi_wp2_with fail
                exact ⟨(m6.trans' (Mv.below hb7)).trans' m9, E5, g5.mono (m6.trans' (Mv.below (E := E4) hb7)).size, rfl, hj5⟩
          · have hok : Cal.okD c (Civ.num y0 m0 d0) (Civ.num y' mo dd) = false := by unfold Cal.okD; rw [decide_eq_false hle, Bool.false_and]
            rw [List.filter_cons, hok] at hj6
            gi_wp2_with fail
            refine ⟨trivial, ?_⟩
            gi_wp2_with fail
            refine ⟨fun _ h => (by cases h), ?_⟩
            gi_wp2_with fail
            exact ⟨m6, E4, Gr.refl _ _, hdr, hj6⟩
        · intro E4 U' hm hg4 hi
          gi_wp2
          exact ⟨m4.trans' hm, E4, hg4.mono sz5, hmr, hi.2⟩
        · rintro c E4 U' hm hg4 ⟨rfl, hi⟩
          gi_wp2
          exact ⟨m4.trans' hm, E4, hg4.mono sz5, rfl, hi⟩
      · intro E3 U' hm hg hi
        gi_wp2
        exact ⟨m3.trans' hm, E3, hg.mono sz3, hhr, hi.2⟩
      · rintro c E3 U' hm hg ⟨rfl, hi⟩
        gi_wp2
        exact ⟨m3.trans' hm, E3, hg.mono sz3, rfl, hi⟩
  case done =>
    intro D E2 U hD hK hnD hm hg hi
    gi_wp2
    refine ⟨by simp, .inl ⟨_, _, rfl, run_takeDeferred hK, ?_⟩⟩
    exact ⟨_, results_none rfl _ _ _, ⟨_, rfl⟩, (m2.trans' hm).put_new (by omega) _, .inl ⟨E2, hg.mono sz1, hJ.keep _ _ _ _ hi.2 (.put ⟨hnD, by omega⟩ _)⟩⟩
  case stop =>
    rintro D c E2 U hD hK hnD hm hg ⟨rfl, hi⟩
    gi_wp2
    refine ⟨by simp, .inl ⟨_, _, rfl, run_takeDeferred hK, ?_⟩⟩
    exact ⟨_, results_none rfl _ _ _, ⟨_, rfl⟩, (m2.trans' hm).put_new (by omega) _, .inr ⟨E2, hg.mono sz1, hJx.keep _ _ _ _ hi (.put ⟨hnD, by omega⟩ _)⟩⟩
end Go.Proofs.YteaaknbininehabDoor
