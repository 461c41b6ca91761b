/- The contract of package calendar's secondsSince: a row of times of a day. -/
import Derived.Test.YteaaknbininehabDoorJ1
namespace Go.Proofs.YteaaknbininehabDoor
open Go.RowKit Go.Shelf
attribute [local go_sem] Oper.semAt_some
abbrev Sl := Option Addr × Nat × Nat
abbrev slv (s : Sl) : Value := .slice s.1 s.2.1 s.2.2
/-- An expression c lies in block b, its lists beyond E. -/
structure CalBox (E : Nat → Prop) (W : World) (b : Nat) (S : Nat → Sl) (c : Cal.C7) : Prop where
  eb : ¬ E b
  c0 : W.cell? ⟨b, 0, none⟩ = some (slv (S 0))
  c1 : W.cell? ⟨b, 1, none⟩ = some (slv (S 1))
  c2 : W.cell? ⟨b, 2, none⟩ = some (slv (S 2))
  c3 : W.cell? ⟨b, 3, none⟩ = some (slv (S 3))
  c4 : W.cell? ⟨b, 4, none⟩ = some (slv (S 4))
  c5 : W.cell? ⟨b, 5, none⟩ = some (slv (S 5))
  c6 : W.cell? ⟨b, 6, none⟩ = some (slv (S 6))
/-- The lists of an expression. -/
structure CalPin (E : Nat → Prop) (W : World) (S : Nat → Sl) (c : Cal.C7) : Prop where
  p0 : Pin E W (slv (S 0)) c.week
  p1 : Pin E W (slv (S 1)) c.year
  p2 : Pin E W (slv (S 2)) c.month
  p3 : Pin E W (slv (S 3)) c.day
  p4 : Pin E W (slv (S 4)) c.hour
  p5 : Pin E W (slv (S 5)) c.minute
  p6 : Pin E W (slv (S 6)) c.second
structure CalOk (c : Cal.C7) : Prop where
  o0 : okL c.week
  o1 : okL c.year
  o2 : okL c.month
  o3 : okL c.day
  o4 : okL c.hour
  o5 : okL c.minute
  o6 : okL c.second
theorem CalBox.mv {E E' : Nat → Prop} {W V : World} {b : Nat} {S : Nat → Sl} {c : Cal.C7} (h : CalBox E W b S c) (m : Mv E W V) (g : Gr E W E') : CalBox E' V b S c :=
  ⟨g.free (cell_lt h.c0) h.eb, m.cell h.eb h.c0, m.cell h.eb h.c1, m.cell h.eb h.c2, m.cell h.eb h.c3, m.cell h.eb h.c4, m.cell h.eb h.c5, m.cell h.eb h.c6⟩
theorem CalPin.mv {E E' : Nat → Prop} {W V : World} {S : Nat → Sl} {c : Cal.C7} (h : CalPin E W S c) (m : Mv E W V) (g : Gr E W E') : CalPin E' V S c :=
  ⟨h.p0.mv m g, h.p1.mv m g, h.p2.mv m g, h.p3.mv m g, h.p4.mv m g, h.p5.mv m g, h.p6.mv m g⟩
def limCells : List Int := [1970, 2200, 1, 12, 1, 31, 0, 23, 0, 59, 0, 59]
/-- The variables 'limits' and 'lengths' lie as they were laid, beyond E. -/
structure Gl (E : Nat → Prop) (W : World) : Prop where
  lim : ∀ (j : Nat) (v : Int), limCells[j]? = some v → W.cell? ⟨0, j, none⟩ = some (.int .i64 v)
  len : LenIn W
  e0 : ¬ E 0
  e1 : ¬ E 1
theorem LenIn.mv {E : Nat → Prop} {W V : World} (h : LenIn W) (m : Mv E W V) (e : ¬ E 1) : LenIn V := fun j v hv => m.cell e (h j v hv)
theorem Gl.mv {E E' : Nat → Prop} {W V : World} (h : Gl E W) (m : Mv E W V) (g : Gr E W E') : Gl E' V :=
  ⟨fun j v hv => m.cell h.e0 (h.lim j v hv), h.len.mv m h.e1, g.free (cell_lt (h.lim 0 1970 rfl)) h.e0, g.free h.len.pos h.e1⟩
/-- A variable of one cell, beyond E. -/
structure Bx (E : Nat → Prop) (W : World) (b : Nat) (v : Value) : Prop where
  c : W.cell? ⟨b, 0, none⟩ = some v
  e : ¬ E b
theorem Bx.mv {E E' : Nat → Prop} {W V : World} {b : Nat} {v : Value} (h : Bx E W b v) (m : Mv E W V) (g : Gr E W E') : Bx E' V b v := ⟨m.cell h.e h.c, g.free (cell_lt h.c) h.e⟩
theorem Bx.lt {E : Nat → Prop} {W : World} {b : Nat} {v : Value} (h : Bx E W b v) : b < W.heap.size := cell_lt h.c
theorem Bx.new {E : Nat → Prop} {W : World} {v : Value} (t : TypeId) (h : ∀ k, E k → k < W.heap.size) : Bx E (W.alloc (.cells #[v] t)) W.heap.size v := ⟨cell_at rfl rfl, fun e => by have := h _ e; omega⟩
/-- What secondsSince's function holds. -/
structure SecX (E : Nat → Prop) (W : World) (bc bf by' l : Nat) (S : Nat → Sl) (c : Cal.C7) (f : Int) : Prop where
  box : CalBox E W bc S c
  pin : CalPin E W S c
  gl : Gl E W
  fr : Bx E W bf (.int .i64 f)
  yl : Bx E W by' (.func (.yield l) #[] #[])
theorem SecX.mv {E E' : Nat → Prop} {W V : World} {bc bf by' l : Nat} {S : Nat → Sl} {c : Cal.C7} {f : Int} (h : SecX E W bc bf by' l S c f) (m : Mv E W V) (g : Gr E W E') : SecX E' V bc bf by' l S c f :=
  ⟨h.box.mv m g, h.pin.mv m g, h.gl.mv m g, h.fr.mv m g, h.yl.mv m g⟩
set_option maxRecDepth 100000 in
set_option maxHeartbeats 8000000 in
theorem sec_row (E : Nat → Prop) (W : World) (bc bf : Nat) (S : Nat → Sl) (c : Cal.C7) (f : Int) (hbx : CalBox E W bc S c) (hpn : CalPin E W S c) (hgl : Gl E W) (hfr : Bx E W bf (.int .i64 f)) (ho : CalOk c) (f0 : 0 ≤ f) (f1 : f ≤ 100000) :
    Row Tryd.prog 60 #[.pointer (some ⟨bc, 0, none⟩), .pointer (some ⟨bf, 0, none⟩)] encI (Cal.ss c f) E W := by
  intro l J Jx E1 V m g hJ hJx hY h0
  have hlow := hJ.low _ _ _ h0
  refine (callsIn_wide (n := 5)).1 ?_
  refine callsIn_of_wp_marks Tryd.func60 rfl trivial ?_ rfl
  simp only [Tryd.ntmps60, List.size_toArray, List.length_cons, List.length_nil, Nat.reduceAdd, Nat.reduceSub, Array.replicate_succ, Array.replicate_zero, List.push_toArray, List.append_toArray, List.nil_append, List.cons_append]
  have hx0 : SecX E1 (V.alloc (.cells #[.func (.yield l) #[] #[]] 107)) bc bf V.heap.size l S c f :=
    ⟨(hbx.mv m g).mv (Mv.alloc _ _ _) (Gr.refl _ _), (hpn.mv m g).mv (Mv.alloc _ _ _) (Gr.refl _ _), (hgl.mv m g).mv (Mv.alloc _ _ _) (Gr.refl _ _), (hfr.mv m g).mv (Mv.alloc _ _ _) (Gr.refl _ _), .new _ hlow⟩
  have k4 := hx0.box.c4
  have kf := hx0.fr.c
  have kl := hx0.gl.lim 7 23 rfl
  gi_wp2_with fail
  refine ⟨trivial, (callsIn_wide.2 (numbers_any c.hour _ (f / 3600) 23 E1 _ hx0.pin.p4 (fun k hk => by have := hlow k hk; simp; omega) ho.o4 (by omega) (by omega) (by omega) (by omega))).mono ?_⟩
  rintro e w1 ⟨lb, rfl, hb1, hrow1⟩
  gi_wp2_with fail
  have m1 : Mv E1 V w1 := (Mv.alloc _ _ _).trans' (Mv.below hb1)
  have hx1 := hx0.mv (Mv.below hb1) (Gr.refl _ _)
  have j1 : J (Cal.ss c f) E1 w1 := hJ.keep _ _ _ _ h0 ((Mv.alloc _ _ _).trans' (Mv.below hb1))
  have s1 := m1.size
  clear k4 kf kl hx0 hb1
  have tI1 : Ter w1.heap.size (fun (rest : List Int) E2 U => (∀ h ∈ rest, 0 ≤ h ∧ h ≤ 23) ∧ J (rest.flatMap fun h => Cal.ssH c f (h * 3600)) E2 U) := ((hJ.up s1).comp (fun rest => List.flatMap (fun h => Cal.ssH c f (h * 3600)) rest)).and _
  have tX : Ter V.heap.size (fun (c : Code) E2 U => c = Code.ret ∧ Jx () E2 U) := (hJx.comp (fun _ => ())).and (fun c => c = Code.ret)
  refine loop_out (gf := 87) (lb := lb) rfl (enters_of Tryd.func87 (by kernel_rfl) rfl) hrow1 (fun _ => rfl)
    (fun rest E2 U => (∀ h ∈ rest, 0 ≤ h ∧ h ≤ 23) ∧ J (rest.flatMap fun h => Cal.ssH c f (h * 3600)) E2 U) (fun c E2 U => c = Code.ret ∧ Jx () E2 U) tI1 (tX.up s1)
    ⟨fun y hy => by have := (Cal.mem_rng _ _ _).1 (List.mem_filter.1 hy).1; omega, j1⟩ ?round ?done ?stop
  case round =>
    intro l1 hl1 h' rest E2 U hi hm hg hEl hrec
    simp only [encI]
    gi_wp2
    refine ⟨⟨Mv.refl _ _, trivial⟩, fun U2 tw => ?_⟩
    obtain ⟨⟨hh, hi2⟩, hm2⟩ := tw.go tI1 hi (Mv.refl _ _) hm (Nat.le_refl _) hl1 hEl
    have hx2 := hx1.mv hm2 hg
    have low2 := hJ.low _ _ _ hi2
    have hr2 := tw.here
    have hh0 := hh h' (by simp)
    have hhr : ∀ y ∈ rest, 0 ≤ y ∧ y ≤ 23 := fun y hy => hh y (by simp [hy])
    have s2 := hm2.size
    rw [List.flatMap_cons] at hi2
    clear hi hm hrec
    have hx3 : SecX E2 (U2.alloc (.cells #[.int .i64 (h' * 3600)] 3)) bc bf V.heap.size l S c f := hx2.mv (Mv.alloc _ _ _) (Gr.refl _ _)
    have hbh : Bx E2 (U2.alloc (.cells #[.int .i64 (h' * 3600)] 3)) U2.heap.size (.int .i64 (h' * 3600)) := .new _ low2
    have k5 := hx3.box.c5
    have kf := hx3.fr.c
    have kh := hbh.c
    have kl := hx3.gl.lim 9 59 rfl
    gi_wp2_with fail
    all_goals
      refine ⟨trivial, (CallsIn.inRound l1 (callsIn_wide.2 (numbers_any c.minute _ _ 59 E2 _ hx3.pin.p5 (fun k hk => by have := low2 k hk; simp; omega) ho.o5 (by omega) (by omega) (by omega) (by omega)))).mono ?_⟩
      rintro e w2 ⟨lb2, rfl, hb2, hrow2⟩
      gi_wp2_with fail
      have m2 : Mv E2 U2 w2 := (Mv.alloc _ _ _).trans' (Mv.below hb2)
      have hx4 := hx3.mv (Mv.below hb2) (Gr.refl _ _)
      have hbh4 := hbh.mv (Mv.below hb2) (Gr.refl _ _)
      have s3 := m2.size
      have j2 : J (Cal.ssH c f (h' * 3600) ++ rest.flatMap fun h => Cal.ssH c f (h * 3600)) E2 w2 := hJ.keep _ _ _ _ hi2 ((Mv.alloc _ _ _).trans' (Mv.below hb2))
      have hr4 : ∃ r, w2.heap[l1]? = some (.loop r) := by
        obtain ⟨r, hr⟩ := hr2
        exact ⟨r, (m2.block l1 (Array.getElem?_eq_some_iff.1 hr).1 hEl).trans hr⟩
      clear k5 kf kh kl hx3 hb2
      have tI2 : Ter w2.heap.size (fun (rest2 : List Int) E3 U => (∀ h ∈ rest2, 0 ≤ h ∧ h ≤ 59) ∧ J (rest2.flatMap (fun m => Cal.ssM c f (h' * 3600 + m * 60)) ++ rest.flatMap fun h => Cal.ssH c f (h * 3600)) E3 U) := ((hJ.up (by omega)).comp (fun (rest2 : List Int) => rest2.flatMap (fun m => Cal.ssM c f (h' * 3600 + m * 60)) ++ rest.flatMap fun h => Cal.ssH c f (h * 3600))).and _
      refine loop_in (l₀ := l1) hr4 (gf := 87) (lb := lb2) rfl (enters_of Tryd.func87 (by kernel_rfl) rfl) hrow2 (fun _ => rfl)
        (fun rest2 E3 U => (∀ h ∈ rest2, 0 ≤ h ∧ h ≤ 59) ∧ J (rest2.flatMap (fun m => Cal.ssM c f (h' * 3600 + m * 60)) ++ rest.flatMap fun h => Cal.ssH c f (h * 3600)) E3 U) (fun c E2 U => c = Code.ret ∧ Jx () E2 U) tI2 (tX.up (by omega))
        ⟨fun y hy => by have := (Cal.mem_rng _ _ _).1 (List.mem_filter.1 hy).1; omega, ?_⟩ ?_ ?_ ?_
      · unfold Cal.ssH at j2
        refine cast ?_ j2
        congr 5
        omega
      · intro l2 hl2 mi rest2 E3 U hi hm hg hEl2 hrec
        simp only [encI]
        gi_wp2
        refine ⟨⟨Mv.refl _ _, trivial⟩, fun U3 tw2 => ?_⟩
        obtain ⟨⟨hmi, hi3⟩, hm3⟩ := tw2.go tI2 hi (Mv.refl _ _) hm (Nat.le_refl _) hl2 hEl2
        have hx5 := hx4.mv hm3 hg
        have hbh5 := hbh4.mv hm3 hg
        have low3 := hJ.low _ _ _ hi3
        have hr5 := tw2.here
        have hmi0 := hmi mi (by simp)
        have hmr : ∀ y ∈ rest2, 0 ≤ y ∧ y ≤ 59 := fun y hy => hmi y (by simp [hy])
        have s4 := hm3.size
        rw [List.flatMap_cons, List.append_assoc] at hi3
        clear hi hm hrec
        have hx6 : SecX E3 (U3.alloc (.cells #[.int .i64 (h' * 3600 + mi * 60)] 3)) bc bf V.heap.size l S c f := hx5.mv (Mv.alloc _ _ _) (Gr.refl _ _)
        have hbm : Bx E3 (U3.alloc (.cells #[.int .i64 (h' * 3600 + mi * 60)] 3)) U3.heap.size (.int .i64 (h' * 3600 + mi * 60)) := .new _ low3
        have k6 := hx6.box.c6
        have kf := hx6.fr.c
        have kh := hbh5.c
        have km := hbm.c
        have kl := hx6.gl.lim 11 59 rfl
        gi_wp2_with fail
        all_goals
          refine ⟨trivial, (CallsIn.inRound l2 (callsIn_wide.2 (numbers_any c.second _ _ 59 E3 _ hx6.pin.p6 (fun k hk => by have := low3 k hk; simp; omega) ho.o6 (by omega) (by omega) (by omega) (by omega)))).mono ?_⟩
          rintro e w3 ⟨lb3, rfl, hb3, hrow3⟩
          gi_wp2_with fail
          have m3 : Mv E3 U3 w3 := (Mv.alloc _ _ _).trans' (Mv.below hb3)
          have hx7 := hx6.mv (Mv.below hb3) (Gr.refl _ _)
          have hbm7 := hbm.mv (Mv.below hb3) (Gr.refl _ _)
          have s5 := m3.size
          have j3 : J (Cal.ssM c f (h' * 3600 + mi * 60) ++ (rest2.flatMap (fun m => Cal.ssM c f (h' * 3600 + m * 60)) ++ rest.flatMap fun h => Cal.ssH c f (h * 3600))) E3 w3 := hJ.keep _ _ _ _ hi3 ((Mv.alloc _ _ _).trans' (Mv.below hb3))
          have hr6 : ∃ r, w3.heap[l2]? = some (.loop r) := by
            obtain ⟨r, hr⟩ := hr5
            exact ⟨r, (m3.block l2 (Array.getElem?_eq_some_iff.1 hr).1 hEl2).trans hr⟩
          clear k6 kf kh km kl hx6 hb3
          have tI3 : Ter w3.heap.size (fun (rest3 : List Int) E4 U => (∀ h ∈ rest3, 0 ≤ h ∧ h ≤ 59) ∧ J (rest3.map (h' * 3600 + mi * 60 + ·) ++ (rest2.flatMap (fun m => Cal.ssM c f (h' * 3600 + m * 60)) ++ rest.flatMap fun h => Cal.ssH c f (h * 3600))) E4 U) := ((hJ.up (by omega)).comp (fun (rest3 : List Int) => rest3.map (h' * 3600 + mi * 60 + ·) ++ (rest2.flatMap (fun m => Cal.ssM c f (h' * 3600 + m * 60)) ++ rest.flatMap fun h => Cal.ssH c f (h * 3600)))).and _
          refine loop_in (l₀ := l2) hr6 (gf := 87) (lb := lb3) rfl (enters_of Tryd.func87 (by kernel_rfl) rfl) hrow3 (fun _ => rfl)
            (fun rest3 E4 U => (∀ h ∈ rest3, 0 ≤ h ∧ h ≤ 59) ∧ J (rest3.map (h' * 3600 + mi * 60 + ·) ++ (rest2.flatMap (fun m => Cal.ssM c f (h' * 3600 + m * 60)) ++ rest.flatMap fun h => Cal.ssH c f (h * 3600))) E4 U) (fun c E2 U => c = Code.ret ∧ Jx () E2 U) tI3 (tX.up (by omega))
            ⟨fun y hy => by have := (Cal.mem_rng _ _ _).1 (List.mem_filter.1 hy).1; omega, ?_⟩ ?_ ?_ ?_
          · unfold Cal.ssM at j3
            refine cast ?_ j3
            congr 5
            omega
          · intro l3 hl3 sc rest3 E4 U hi hm hg hEl3 hrec
            simp only [encI]
            gi_wp2
            refine ⟨⟨Mv.refl _ _, trivial⟩, fun U4 tw3 => ?_⟩
            obtain ⟨⟨hsc, hi4⟩, hm4⟩ := tw3.go tI3 hi (Mv.refl _ _) hm (Nat.le_refl _) hl3 hEl3
            have hx8 := hx7.mv hm4 hg
            have hbm8 := hbm7.mv hm4 hg
            have hsc0 := hsc sc (by simp)
            have hsr : ∀ y ∈ rest3, 0 ≤ y ∧ y ≤ 59 := fun y hy => hsc y (by simp [hy])
            rw [List.map_cons, List.cons_append] at hi4
            clear hi hm hrec
            have ky := hx8.yl.c
            have km := hbm8.c
            obtain ⟨fn, tmps, assign, body, hy, hR⟩ := hY _ _ E4 U4 hi4
            dsimp only [encI] at hy
            gi_wp2_with fail
            refine (wide_round hR).mono ?_
            rintro e W3 ⟨m9, (⟨rfl, E5, g5, hj5⟩ | ⟨rfl, E5, g5, hj5⟩)⟩
            · gi_wp2_with fail
              exact ⟨m9, E5, g5, hsr, hj5⟩
            · gi_wp2_with fail
              exact ⟨m9, E5, g5, rfl, hj5⟩
          · intro E4 U hm hg hi
            gi_wp2
            exact ⟨m3.trans' hm, E4, hg.mono s5, hmr, hi.2⟩
          · rintro c E4 U hm hg ⟨rfl, hi⟩
            gi_wp2
            exact ⟨m3.trans' hm, E4, hg.mono s5, rfl, hi⟩
      · intro E3 U hm hg hi
        gi_wp2
        exact ⟨m2.trans' hm, E3, hg.mono s3, hhr, hi.2⟩
      · rintro c E3 U hm hg ⟨rfl, hi⟩
        gi_wp2
        exact ⟨m2.trans' hm, E3, hg.mono s3, rfl, hi⟩
  case done =>
    intro D E2 U hD hK hnD hm hg hi
    gi_wp2
    refine ⟨by simp, .inl ⟨_, _, rfl, run_takeDeferred hK, ?_⟩⟩
    exact ⟨_, results_none rfl _ _ _, ⟨_, rfl⟩, (m1.trans' hm).put_new (by omega) _, .inl ⟨E2, hg.mono s1, hJ.keep _ _ _ _ hi.2 (.put ⟨hnD, by omega⟩ _)⟩⟩
  case stop =>
    rintro D c E2 U hD hK hnD hm hg ⟨rfl, hi⟩
    gi_wp2
    refine ⟨by simp, .inl ⟨_, _, rfl, run_takeDeferred hK, ?_⟩⟩
    exact ⟨_, results_none rfl _ _ _, ⟨_, rfl⟩, (m1.trans' hm).put_new (by omega) _, .inr ⟨E2, hg.mono s1, hJx.keep _ _ _ _ hi (.put ⟨hnD, by omega⟩ _)⟩⟩
end Go.Proofs.YteaaknbininehabDoor
