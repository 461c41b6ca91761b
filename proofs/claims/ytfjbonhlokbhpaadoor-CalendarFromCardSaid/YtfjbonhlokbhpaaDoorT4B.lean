/- The times above a time, gone through by CalendarFrom's closure. -/
import Derived.Test.YtfjbonhlokbhpaaDoorZN
import Derived.Test.YtfjbonhlokbhpaaDoorZC
namespace Go.Proofs.YtfjbonhlokbhpaaDoor
open Go.RowKit Go.Shelf
attribute [local go_sem] Oper.semAt_some
/-- The taker of a row that is a function of its own. -/
def YiF (P : Program) {α : Type} (G : Nat) (caps : Array Value) (enc : α → Array Value) (J : List α → (Nat → Prop) → World → Prop) (Jx : Unit → (Nat → Prop) → World → Prop) : Prop :=
  ∀ x rest E W, J (x :: rest) E W → Calls P G (enc x ++ caps) W fun e V => Mv E W V ∧
    ((e = .returned (.bool true) ∧ ∃ E', Gr E W E' ∧ J rest E' V) ∨ (e = .returned (.bool false) ∧ ∃ E', Gr E W E' ∧ Jx () E' V))
/-- What timesAbove's function holds. -/
structure TimF (E : Nat → Prop) (W : World) (bt bc bf by' pl pn : Nat) (S : Nat → Sl) (c : Cal.C7) (f : Int) : Prop where
  box : CalBox E W bc S c
  pin : CalPin E W S c
  gl : Gl E W
  fr : Bx E W bf (.int .i64 f)
  yl : Bx E W by' (.func (.func 11) #[] #[.pointer (some ⟨pl, 0, none⟩), .pointer (some ⟨pn, 0, none⟩)])
theorem TimF.mv {E E' : Nat → Prop} {W V : World} {bt bc bf by' pl pn : Nat} {S : Nat → Sl} {c : Cal.C7} {f : Int} (h : TimF E W bt bc bf by' pl pn S c f) (m : Mv E W V) (g : Gr E W E') : TimF E' V bt bc bf by' pl pn S c f :=
  ⟨h.box.mv m g, h.pin.mv m g, h.gl.mv m g, h.fr.mv m g, h.yl.mv m g⟩
set_option maxRecDepth 100000 in
set_option maxHeartbeats 8000000 in
theorem time_noF (pl pn : Nat) (E : Nat → Prop) (W : World) (bt bc : Nat) (c : Cal.C7) (t : Int) (ht : Bx E W bt (.int .i64 t)) (tmax : t ≤ 9223372036854775807) (hno : 7289654400 ≤ Cal.fromT t)
    (J : List Int → (Nat → Prop) → World → Prop) (Jx : Unit → (Nat → Prop) → World → Prop) (E1 : Nat → Prop) (V : World) (m : Mv E W V) (g : Gr E W E1) (hJ : Ter V.heap.size J) (h0 : J (Cal.ts c t) E1 V) :
    Calls Tryd.prog 36 #[.func (.func 11) #[] #[.pointer (some ⟨pl, 0, none⟩), .pointer (some ⟨pn, 0, none⟩)], .pointer (some ⟨bt, 0, none⟩), .pointer (some ⟨bc, 0, none⟩)] V (Went J Jx E1 V) := by
  have he : Cal.ts c t = [] := by unfold Cal.ts; rw [if_neg (by omega)]
  rw [he] at h0
  have kt := (ht.mv m g).c
  have kl := (ht.mv m g).lt
  unfold Cal.fromT at hno
  have tp : 7289654398 < t := by omega
  clear he hno
  by_cases hx : t = 9223372036854775807
  · subst hx
    go_enter Tryd.func36, Tryd.ntmps36
    go_wp2_with fail
    refine (moment_no _ _ (.inl (by decide +kernel))).mono ?_
    rintro e w1 ⟨rfl, hb1⟩
    have mC : ∀ F : Nat → Prop, Mv F V w1 := fun F => by
      have mB : Mv F _ w1 := Mv.below hb1
      exact Mv.trans' (Mv.trans' (Mv.alloc F V _) (Mv.alloc F _ _)) mB
    clear hb1
    dsimp only [momV]
    go_wp2_with fail
    refine bodyPost_ret (results_none rfl _ _ _) rfl ?_
    exact ⟨⟨_, rfl⟩, (mC E1).trans' (Mv.alloc _ _ _), .inl ⟨E1, Gr.refl _ _, hJ.keep _ _ _ _ h0 ((mC _).trans' (Mv.alloc _ _ _))⟩⟩
  · go_enter Tryd.func36, Tryd.ntmps36
    go_wp2_with fail
    refine (moment_no _ _ (.inr (by omega))).mono ?_
    rintro e w1 ⟨rfl, hb1⟩
    have mC : ∀ F : Nat → Prop, Mv F V w1 := fun F => by
      have mB : Mv F _ w1 := Mv.below hb1
      exact Mv.trans' (Mv.trans' (Mv.alloc F V _) (Mv.alloc F _ _)) mB
    clear hb1
    dsimp only [momV]
    go_wp2_with fail
    refine bodyPost_ret (results_none rfl _ _ _) rfl ?_
    exact ⟨⟨_, rfl⟩, (mC E1).trans' (Mv.alloc _ _ _), .inl ⟨E1, Gr.refl _ _, hJ.keep _ _ _ _ h0 ((mC _).trans' (Mv.alloc _ _ _))⟩⟩
set_option maxRecDepth 100000 in
set_option maxHeartbeats 8000000 in
theorem time_yesF (pl pn : Nat) (E : Nat → Prop) (W : World) (bt bc : Nat) (S : Nat → Sl) (c : Cal.C7) (t : Int) (hbx : CalBox E W bc S c) (hpn : CalPin E W S c) (hgl : Gl E W) (ht : Bx E W bt (.int .i64 t)) (ho : CalOk c) (hyes : Cal.fromT t < 7289654400)
    (J : List Int → (Nat → Prop) → World → Prop) (Jx : Unit → (Nat → Prop) → World → Prop) (E1 : Nat → Prop) (V : World) (m : Mv E W V) (g : Gr E W E1) (hJ : Ter V.heap.size J) (hJx : Ter V.heap.size Jx) (hY : YiF Tryd.prog 11 #[.pointer (some ⟨pl, 0, none⟩), .pointer (some ⟨pn, 0, none⟩)] encI J Jx) (h0 : J (Cal.ts c t) E1 V) :
    Calls Tryd.prog 36 #[.func (.func 11) #[] #[.pointer (some ⟨pl, 0, none⟩), .pointer (some ⟨pn, 0, none⟩)], .pointer (some ⟨bt, 0, none⟩), .pointer (some ⟨bc, 0, none⟩)] V (Went J Jx E1 V) := by
  have he : Cal.ts c t = Cal.tsF c (Cal.fromT t) := by unfold Cal.ts; rw [if_pos hyes]
  rw [he] at h0
  obtain ⟨f, hf⟩ : ∃ f, Cal.fromT t = f := ⟨_, rfl⟩
  have f0 : 0 ≤ f := by rw [← hf]; unfold Cal.fromT; omega
  have hmx : Hid (f = max t (-1) + 1) := by show _ = _; rw [← hf]; rfl
  rw [hf] at h0 hyes
  have t1 : t < 7289654400 := by have := hmx.out; omega
  have hif : (if t < -1 then (-1 : Int) else t) = f - 1 := by have := hmx.out; split <;> omega
  have hmx2 : max t (-1) + 1 = f := hmx.out.symm
  clear he hf
  have hlow := hJ.low _ _ _ h0
  have kt0 := (ht.mv m g)
  have kt := (kt0.mv (Mv.alloc _ _ (.cells #[.func (.func 11) #[] #[.pointer (some ⟨pl, 0, none⟩), .pointer (some ⟨pn, 0, none⟩)]] 31)) (Gr.refl _ _)).c
  have hv := Civ.date_vld (n := f / 86400) (by omega) (by omega)
  refine (callsIn_wide (n := 5)).1 ?_
  refine callsIn_of_wp_marks Tryd.func36 rfl trivial ?_ rfl
  simp only [Tryd.ntmps36, List.size_toArray, List.length_cons, List.length_nil, Nat.reduceAdd, Nat.reduceSub, Array.replicate_succ, Array.replicate_zero, List.push_toArray, List.append_toArray, List.nil_append, List.cons_append]
  gi_wp2_with fail
  have mA : Mv E1 V ((V.alloc (.cells #[.func (.func 11) #[] #[.pointer (some ⟨pl, 0, none⟩), .pointer (some ⟨pn, 0, none⟩)]] 31)).alloc (.cells #[.int .i64 f] 2)) := (Mv.alloc _ _ _).trans' (Mv.alloc _ _ _)
  refine ⟨trivial, (callsIn_wide.2 (moment_yes f _ ((hgl.mv m g).mv mA (Gr.refl _ _)).len f0 hyes)).mono ?_⟩
  rintro e w1 ⟨rfl, hb1⟩
  have hv1 : Hid (Civ.vldB (Civ.dY (f / 86400)) (Civ.dM (f / 86400)) (Civ.dD (f / 86400)) = true) := hv
  clear hv hif kt hmx2
  have hdsb := ds_bd (c := c) f0 hyes
  have h0' : J ((Cal.ds c (Civ.dY (f / 86400)) (Civ.dM (f / 86400)) (Civ.dD (f / 86400))).flatMap (Cal.tsD c f)) E1 V := h0
  clear h0
  revert hv1 hdsb h0'
  generalize Civ.dY (f / 86400) = y0
  generalize Civ.dM (f / 86400) = m0
  generalize Civ.dD (f / 86400) = d0
  generalize mH f = q3
  generalize mMi f = q4
  generalize mS f = q5
  intro hv1 hdsb h0
  dsimp only [momV]
  have m1 : Mv E1 V (w1.alloc (.cells #[.int .i64 y0, .int .i64 m0, .int .i64 d0, .int .i64 q3, .int .i64 q4, .int .i64 q5] 37)) := (mA.trans' (Mv.below hb1)).trans' (Mv.alloc _ _ _)
  have hx0 : TimF E1 (w1.alloc (.cells #[.int .i64 y0, .int .i64 m0, .int .i64 d0, .int .i64 q3, .int .i64 q4, .int .i64 q5] 37)) bt bc (V.heap.size + 1) V.heap.size pl pn S c f := by
    have hA : Bx E1 ((V.alloc (.cells #[.func (.func 11) #[] #[.pointer (some ⟨pl, 0, none⟩), .pointer (some ⟨pn, 0, none⟩)]] 31)).alloc (.cells #[.int .i64 f] 2)) (V.heap.size + 1) (.int .i64 f) := ⟨cell_at (by simp) rfl, fun h => by have := hlow _ h; omega⟩
    have hB : Bx E1 ((V.alloc (.cells #[.func (.func 11) #[] #[.pointer (some ⟨pl, 0, none⟩), .pointer (some ⟨pn, 0, none⟩)]] 31)).alloc (.cells #[.int .i64 f] 2)) V.heap.size (.func (.func 11) #[] #[.pointer (some ⟨pl, 0, none⟩), .pointer (some ⟨pn, 0, none⟩)]) := (Bx.new _ hlow).mv (Mv.alloc _ _ _) (Gr.refl _ _)
    exact ⟨(hbx.mv m g).mv m1 (Gr.refl _ _), (hpn.mv m g).mv m1 (Gr.refl _ _), (hgl.mv m g).mv m1 (Gr.refl _ _), hA.mv ((Mv.below hb1).trans' (Mv.alloc _ _ _)) (Gr.refl _ _), hB.mv ((Mv.below hb1).trans' (Mv.alloc _ _ _)) (Gr.refl _ _)⟩
  have j0 : J ((Cal.ds c y0 m0 d0).flatMap (Cal.tsD c f)) E1 (w1.alloc (.cells #[.int .i64 y0, .int .i64 m0, .int .i64 d0, .int .i64 q3, .int .i64 q4, .int .i64 q5] 37)) := hJ.keep _ _ _ _ h0 ((((Mv.alloc _ _ _).trans' (Mv.alloc _ _ _)).trans' (Mv.below hb1)).trans' (Mv.alloc _ _ _))
  have k0 := hx0.box.c0
  have k1 := hx0.box.c1
  have k2 := hx0.box.c2
  have k3 := hx0.box.c3
  have k4 := hx0.box.c4
  have k5 := hx0.box.c5
  have k6 := hx0.box.c6
  gi_wp2_with fail
  refine ⟨trivial, (callsIn_wide.2 (daysSince_any S c y0 m0 d0 E1 _ hx0.pin hx0.gl (fun k hk => by have := hlow k hk; have := m1.size; simp at this ⊢; omega) ho hv1.out)).mono ?_⟩
  rintro e w2 ⟨lb, rfl, hb2, hrow1⟩
  gi_wp2_with fail
  have hx1 := hx0.mv (Mv.below hb2) (Gr.refl _ _)
  have m2 : Mv E1 V w2 := m1.trans' (Mv.below hb2)
  have j1 : J ((Cal.ds c y0 m0 d0).flatMap (Cal.tsD c f)) E1 w2 := hJ.keep _ _ _ _ j0 (Mv.below hb2)
  have sz1 := m2.size
  clear k0 k1 k2 k3 k4 k5 k6 hx0 hb2 hb1 mA m1 j0
  have tX : Ter V.heap.size (fun (c : Code) E2 U => c = Code.ret ∧ Jx () E2 U) := (hJx.comp (fun _ => ())).and (fun c => c = Code.ret)
  have tI1 : Ter w2.heap.size (fun (rest : List Int) E2 U => (∀ h ∈ rest, f / 86400 ≤ h ∧ h < 84371) ∧ J (rest.flatMap (Cal.tsD c f)) E2 U) := ((hJ.up sz1).comp (fun rest => List.flatMap (Cal.tsD c f) rest)).and _
  refine loop_out (gf := 60) (lb := lb) rfl (enters_of Tryd.func60 (by kernel_rfl) rfl) hrow1 (fun _ => rfl)
    (fun rest E2 U => (∀ h ∈ rest, f / 86400 ≤ h ∧ h < 84371) ∧ J (rest.flatMap (Cal.tsD c f)) E2 U) (fun c E2 U => c = Code.ret ∧ Jx () E2 U) tI1 (tX.up sz1)
    ⟨hdsb, j1⟩ ?round ?done ?stop
  case round =>
    intro l1 hl1 d' rest E2 U hi hm hg hEl hrec
    simp only [encI]
    gi_wp2
    refine ⟨⟨Mv.refl _ _, trivial⟩, fun U2 tw => ?_⟩
    obtain ⟨⟨hh, hi2⟩, hm2⟩ := tw.go tI1 hi (Mv.refl _ _) hm (Nat.le_refl _) hl1 hEl
    have hx2 := hx1.mv hm2 hg
    have low2 := hJ.low _ _ _ hi2
    have hr2 := tw.here
    have hh0 := hh d' (by simp)
    have hhr : ∀ y ∈ rest, f / 86400 ≤ y ∧ y < 84371 := fun y hy => hh y (by simp [hy])
    have sz2 := hm2.size
    rw [List.flatMap_cons] at hi2
    clear hi hm hrec
    have hx3 : TimF E2 (U2.alloc (.cells #[.int .i64 (d' * 86400)] 2)) bt bc (V.heap.size + 1) V.heap.size pl pn S c f := hx2.mv (Mv.alloc _ _ _) (Gr.refl _ _)
    have hbm : Bx E2 (U2.alloc (.cells #[.int .i64 (d' * 86400)] 2)) U2.heap.size (.int .i64 (d' * 86400)) := .new _ low2
    have k0 := hx3.box.c0
    have k1 := hx3.box.c1
    have k2 := hx3.box.c2
    have k3 := hx3.box.c3
    have k4 := hx3.box.c4
    have k5 := hx3.box.c5
    have k6 := hx3.box.c6
    have kf := hx3.fr.c
    have km := hbm.c
    obtain ⟨g', hg'⟩ : ∃ g', max (f - d' * 86400) 0 = g' := ⟨_, rfl⟩
    have hif : (if f - d' * 86400 < 0 then (0 : Int) else f - d' * 86400) = g' := by rw [← hg']; split <;> omega
    have g0 : 0 ≤ g' := by omega
    have g1 : g' ≤ 86400 := by omega
    have htD : Hid (Cal.tsD c f d' = (Cal.ss c g').map (d' * 86400 + ·)) := by show _ = _; unfold Cal.tsD; rw [hg']
    gi_wp2_with fail
    refine ⟨trivial, (CallsIn.inRound l1 (callsIn_wide.2 (secondsSince_any S c g' E2 _ hx3.pin hx3.gl (fun k hk => by have := low2 k hk; simp; omega) ho g0 (by omega)))).mono ?_⟩
    rintro e w3 ⟨lb2, rfl, hb3, hrow2⟩
    gi_wp2_with fail
    have m3 : Mv E2 U2 w3 := (Mv.alloc _ _ _).trans' (Mv.below hb3)
    have hx4 := hx3.mv (Mv.below hb3) (Gr.refl _ _)
    have hbm4 := hbm.mv (Mv.below hb3) (Gr.refl _ _)
    have sz3 := m3.size
    have j2 : J ((Cal.ss c g').map (d' * 86400 + ·) ++ rest.flatMap (Cal.tsD c f)) E2 w3 := by
      rw [← htD.out]
      exact hJ.keep _ _ _ _ hi2 ((Mv.alloc _ _ _).trans' (Mv.below hb3))
    have hr4 : ∃ r, w3.heap[l1]? = some (.loop r) := by
      obtain ⟨r, hr⟩ := hr2
      exact ⟨r, (m3.block l1 (Array.getElem?_eq_some_iff.1 hr).1 hEl).trans hr⟩
    clear k0 k1 k2 k3 k4 k5 k6 kf km hx3 hb3 hif hg'
    have tI2 : Ter w3.heap.size (fun (rest2 : List Int) E3 U => (∀ h ∈ rest2, 0 ≤ h ∧ h < 86400) ∧ J (rest2.map (d' * 86400 + ·) ++ rest.flatMap (Cal.tsD c f)) E3 U) := ((hJ.up (by omega)).comp (fun (rest2 : List Int) => rest2.map (d' * 86400 + ·) ++ rest.flatMap (Cal.tsD c f))).and _
    refine loop_in (l₀ := l1) hr4 (gf := 65) (lb := lb2) rfl (enters_of Tryd.func65 (by kernel_rfl) rfl) hrow2 (fun _ => rfl)
      (fun rest2 E3 U => (∀ h ∈ rest2, 0 ≤ h ∧ h < 86400) ∧ J (rest2.map (d' * 86400 + ·) ++ rest.flatMap (Cal.tsD c f)) E3 U) (fun c E2 U => c = Code.ret ∧ Jx () E2 U) tI2 (tX.up (by omega))
      ⟨ss_bd g0, j2⟩ ?_ ?_ ?_
    · intro l2 hl2 sc rest2 E3 U' hi hm hg3 hEl2 hrec
      simp only [encI]
      gi_wp2
      refine ⟨⟨Mv.refl _ _, trivial⟩, fun U3 tw2 => ?_⟩
      obtain ⟨⟨hsc, hi3⟩, hm3⟩ := tw2.go tI2 hi (Mv.refl _ _) hm (Nat.le_refl _) hl2 hEl2
      have hx5 := hx4.mv hm3 hg3
      have hbm5 := hbm4.mv hm3 hg3
      have hsc0 := hsc sc (by simp)
      have hsr : ∀ y ∈ rest2, 0 ≤ y ∧ y < 86400 := fun y hy => hsc y (by simp [hy])
      rw [List.map_cons, List.cons_append] at hi3
      clear hi hm hrec
      have ky := hx5.yl.c
      have km := hbm5.c
      have hcall := hY _ _ E3 U3 hi3
      simp only [encI, List.append_toArray, List.cons_append, List.nil_append] at hcall
      gi_wp2_with fail
      refine ⟨trivial, (CallsIn.inRound l2 (callsIn_wide.2 hcall)).mono ?_⟩
      rintro e W3 ⟨m9, (⟨rfl, E5, g5, hj5⟩ | ⟨rfl, E5, g5, hj5⟩)⟩
      · gi_wp2_with fail
        exact ⟨m9, E5, g5, hsr, hj5⟩
      · gi_wp2_with fail
        exact ⟨m9, E5, g5, rfl, hj5⟩
    · intro E3 U' hm hg3 hi
      gi_wp2
      exact ⟨m3.trans' hm, E3, hg3.mono sz3, hhr, hi.2⟩
    · rintro c E3 U' hm hg3 ⟨rfl, hi⟩
      gi_wp2
      exact ⟨m3.trans' hm, E3, hg3.mono sz3, rfl, hi⟩
  case done =>
    intro D E2 U hD hK hnD hm hg hi
    gi_wp2
    refine ⟨by simp, .inl ⟨_, _, rfl, run_takeDeferred hK, ?_⟩⟩
    exact ⟨_, results_none rfl _ _ _, ⟨_, rfl⟩, (m2.trans' hm).put_new (by omega) _, .inl ⟨E2, hg.mono sz1, hJ.keep _ _ _ _ hi.2 (.put ⟨hnD, by omega⟩ _)⟩⟩
  case stop =>
    rintro D c E2 U hD hK hnD hm hg ⟨rfl, hi⟩
    gi_wp2
    refine ⟨by simp, .inl ⟨_, _, rfl, run_takeDeferred hK, ?_⟩⟩
    exact ⟨_, results_none rfl _ _ _, ⟨_, rfl⟩, (m2.trans' hm).put_new (by omega) _, .inr ⟨E2, hg.mono sz1, hJx.keep _ _ _ _ hi (.put ⟨hnD, by omega⟩ _)⟩⟩
end Go.Proofs.YtfjbonhlokbhpaaDoor
