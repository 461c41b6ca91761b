/- Contracts of package civil's Month as a row, and of the dates of it whose day is in a list. -/
import Derived.Test.YteaaknbininehabDoorS1
namespace Go.Proofs.YteaaknbininehabDoor
open Go.RowKit Go.Shelf
attribute [local go_sem] Oper.semAt_some
def encD (y m d : Int) : Array Value := #[.agg #[.int .i64 y, .int .i64 m, .int .i64 d]]
set_option maxRecDepth 100000 in
set_option maxHeartbeats 2000000 in
theorem month1_row (y m : Int) (bx bm : Nat) (E : Nat → Prop) (W : World) (hv : Civ.monB y m = true) (hy : Bx E W bx (.int .i64 y)) (hmm : Bx E W bm (.int .i64 m)) (hgl : Gl E W) :
    Row Tryd.prog 77 #[.pointer (some ⟨bx, 0, none⟩), .pointer (some ⟨bm, 0, none⟩)] (encD y m) (Cal.rng 1 (Civ.dim y m)) E W := by
  obtain ⟨y0, y1, m0, m1⟩ := Civ.monB_iff.1 hv
  have dm := Civ.dim_bd y m
  intro l J Jx E1 V mv g hJ hJx hY h0
  have a1 := hy.mv mv g
  have a2 := hmm.mv mv g
  have a3 := hgl.mv mv g
  have k1 := a1.c
  have k2 := a2.c
  refine (callsIn_wide (n := 5)).1 ?_
  refine callsIn_of_wp Tryd.func77 rfl trivial ?_ rfl
  simp only [Tryd.ntmps77, List.size_toArray, List.length_cons, List.length_nil, Nat.reduceAdd, Nat.reduceSub, Array.replicate_succ, Array.replicate_zero, List.push_toArray, List.append_toArray, List.nil_append, List.cons_append]
  gi_wp2_with fail
  refine ⟨trivial, (callsIn_wide.2 (isMonth_any y m _)).mono ?_⟩
  rintro e w1 ⟨rfl, rfl⟩
  gi_wp2_with fail
  clear k1 k2
  gi_loopw [4] (fun i wr => ∃ (k : Int) (E2 : Nat → Prop), 1 ≤ k ∧ k ≤ Civ.dim y m + 1 ∧ i = .int .i64 k ∧ J (Cal.rng k (Civ.dim y m)) E2 wr ∧ Mv E1 w1 wr ∧ Gr E1 w1 E2) (fun i _ => (100 - intOf i).toNat)
  case atStart => exact ⟨1, E1, by omega, by omega, rfl, h0, Mv.refl _ _, Gr.refl _ _⟩
  case round =>
    obtain ⟨k, E2, k0, k1, rfl, hj, hm, hg⟩ := hrel
    have b1 := a1.mv hm hg
    have b2 := a2.mv hm hg
    have b3 := a3.mv hm hg
    have c1 := b1.c
    have c2 := b2.c
    by_cases hk : k ≤ Civ.dim y m
    · rw [Cal.rng_cons hk] at hj
      obtain ⟨fn, tmps, assign, body, hy, hR⟩ := hY k _ E2 wr hj
      dsimp only [encD] at hy
      gi_wp2_with fail
      refine ⟨trivial, (callsIn_wide.2 (length_any y m _ b3.len (by omega) (by omega) m0 m1)).mono ?_⟩
      rintro e w2 ⟨rfl, rfl⟩
      gi_wp2_with fail
      refine (wide_round' hR).mono ?_
      rintro e W3 ⟨m3, (⟨rfl, E3, g3, hj3⟩ | ⟨rfl, E3, g3, hj3⟩)⟩
      · gi_wp2_with fail
        exact ⟨⟨k + 1, E3, by omega, by omega, rfl, hj3, hm.trans hg m3, hg.trans hm.size g3⟩, by simp [intOf]; omega⟩
      · gi_wp2_with fail
        refine bodyPost_ret (results_none rfl _ _ _) rfl ?_
        exact ⟨⟨_, rfl⟩, hm.trans hg m3, .inr ⟨E3, hg.trans hm.size g3, hj3⟩⟩
    · rw [Cal.rng_nil (by omega)] at hj
      gi_wp2_with fail
      refine ⟨trivial, (callsIn_wide.2 (length_any y m _ b3.len (by omega) (by omega) m0 m1)).mono ?_⟩
      rintro e w2 ⟨rfl, rfl⟩
      gi_wp2_with fail
      go_end0
      exact ⟨⟨_, rfl⟩, hm, .inl ⟨E2, hg, hj⟩⟩
set_option maxHeartbeats 1000000 in
theorem dayIn_any (c : Cal.C7) (y m d : Int) (bc : Nat) (S : Nat → Sl) (E : Nat → Prop) (w : World) (hb : CalBox E w bc S c) (hp : CalPin E w S c) (ho : CalOk c) (h0 : 0 ≤ d) (h1 : d ≤ 100) :
    Calls Tryd.prog 59 #[.agg #[.int .i64 y, .int .i64 m, .int .i64 d], .pointer (some ⟨bc, 0, none⟩)] w fun e w' => e = .returned (.bool (Cal.inL c.day d)) ∧ Below w.heap.size w w' := by
  have k3 := hb.c3
  have kl := cell_lt k3
  simp only at kl
  go_enter Tryd.func59, Tryd.ntmps59
  go_wp2_with fail
  refine (isIn_any c.day d _ _ (hp.p3.none.below ((Below.refl _ _).alloc (Nat.le_refl _) _)) ho.o3 h0 (by omega)).mono ?_
  rintro e w' ⟨rfl, hb⟩
  go_wp2_with fail
  go_ret
  exact ⟨rfl, ((Below.refl _ w).alloc (Nat.le_refl _) _).trans (hb.mono (by simp))⟩
/-- What the row of a month's dates has captured. -/
structure DatX (E : Nat → Prop) (W : World) (r gd bx bm bc : Nat) (S : Nat → Sl) (c : Cal.C7) (y m : Int) : Prop where
  cr : Bx E W r (.func (.func 77) #[] #[.pointer (some ⟨bx, 0, none⟩), .pointer (some ⟨bm, 0, none⟩)])
  cg : Bx E W gd (.func (.func 59) #[] #[.pointer (some ⟨bc, 0, none⟩)])
  cy : Bx E W bx (.int .i64 y)
  cm : Bx E W bm (.int .i64 m)
  box : CalBox E W bc S c
  pin : CalPin E W S c
  gl : Gl E W
theorem DatX.mv {E E' : Nat → Prop} {W V : World} {r gd bx bm bc : Nat} {S : Nat → Sl} {c : Cal.C7} {y m' : Int} (h : DatX E W r gd bx bm bc S c y m') (m : Mv E W V) (g : Gr E W E') : DatX E' V r gd bx bm bc S c y m' :=
  ⟨h.cr.mv m g, h.cg.mv m g, h.cy.mv m g, h.cm.mv m g, h.box.mv m g, h.pin.mv m g, h.gl.mv m g⟩
set_option maxRecDepth 100000 in
set_option maxHeartbeats 4000000 in
theorem pickD_row (E : Nat → Prop) (W : World) (r gd bx bm bc : Nat) (S : Nat → Sl) (c : Cal.C7) (y m' : Int) (hb : DatX E W r gd bx bm bc S c y m') (ho : CalOk c) (hv : Civ.monB y m' = true) :
    Row Tryd.prog 76 #[.pointer (some ⟨r, 0, none⟩), .pointer (some ⟨gd, 0, none⟩)] (encD y m') ((Cal.rng 1 (Civ.dim y m')).filter (Cal.inL c.day)) E W := by
  intro l J Jx E1 V m g hJ hJx hY h0
  have dm := Civ.dim_bd y m'
  have hb1 := hb.mv m g
  have cr := hb1.cr.c
  have rl := hb1.cr.lt
  have hlow := hJ.low _ _ _ h0
  refine (callsIn_wide (n := 5)).1 ?_
  refine callsIn_of_wp_marks Tryd.func76 rfl trivial ?_ rfl
  simp only [Tryd.ntmps76, List.size_toArray, List.length_cons, List.length_nil, Nat.reduceAdd, Nat.reduceSub, Array.replicate_succ, Array.replicate_zero, List.push_toArray, List.append_toArray, List.nil_append, List.cons_append]
  gi_wp2
  have mV : Mv E1 V (V.alloc (.cells #[.func (.yield l) #[] #[]] 90)) := Mv.alloc _ _ _
  have cy : (V.alloc (.cells #[.func (.yield l) #[] #[]] 90)).cell? ⟨V.heap.size, 0, none⟩ = some (.func (.yield l) #[] #[]) := by simp
  have hs : (V.alloc (.cells #[.func (.yield l) #[] #[]] 90)).heap.size = V.heap.size + 1 := by simp
  have k0 : J ((Cal.rng 1 (Civ.dim y m')).filter (Cal.inL c.day)) E1 (V.alloc (.cells #[.func (.yield l) #[] #[]] 90)) := hJ.keep _ _ _ _ h0 (Mv.alloc _ _ _)
  revert mV cy hs k0
  generalize V.alloc (.cells #[.func (.yield l) #[] #[]] 90) = W0
  intro mV cy hs k0
  have hb2 := hb1.mv mV (Gr.refl _ _)
  have ey : ¬ E1 V.heap.size := fun h => by have := hlow _ h; omega
  clear cr rl
  have tI : Ter W0.heap.size (fun (rest : List Int) E2 W => (∀ y ∈ rest, 1 ≤ y ∧ y ≤ 31) ∧ J (rest.filter (Cal.inL c.day)) E2 W) := ((hJ.up (by omega)).comp (fun rest => List.filter (Cal.inL c.day) rest)).and _
  refine loop_out (gf := 77) (lb := #[.pointer (some ⟨bx, 0, none⟩), .pointer (some ⟨bm, 0, none⟩)]) rfl (enters_of Tryd.func77 (by kernel_rfl) rfl)
    (month1_row y m' bx bm E1 W0 hv hb2.cy hb2.cm hb2.gl) (fun _ => rfl)
    (fun rest E2 W => (∀ y ∈ rest, 1 ≤ y ∧ y ≤ 31) ∧ J (rest.filter (Cal.inL c.day)) E2 W) (fun c E2 W => c = Code.ret ∧ Jx () E2 W) tI (((hJx.comp (fun _ => ())).up (by omega)).and (fun c => c = Code.ret))
    ⟨fun y hy => by have := (Cal.mem_rng _ _ _).1 hy; omega, k0⟩ ?round ?done ?stop
  case round =>
    intro l1 hl1 x rest E2 U hi hm hg hEl hrec
    have hlt : l1 < U.heap.size := by obtain ⟨r, hr⟩ := hrec; exact (Array.getElem?_eq_some_iff.1 hr).1
    simp only [encD]
    gi_wp2
    refine ⟨⟨Mv.alloc _ _ _, ?_⟩, fun U2 tw => ?_⟩
    · exact Below.heap_alloc _ _ _ hlt
    have low1 := tI.low _ _ _ hi
    obtain ⟨⟨hx, hi2⟩, hm2⟩ := tw.go tI hi (Mv.alloc _ _ _) hm (Nat.le_refl _) hl1 hEl
    have hb3 := hb2.mv hm2 hg
    have cg := hb3.cg.c
    have x0 := hx x (by simp)
    have hxr : ∀ y ∈ rest, 1 ≤ y ∧ y ≤ 31 := fun y hy => hx y (by simp [hy])
    have q0 : U2.cell? ⟨U.heap.size, 0, none⟩ = some (.int .i64 y) := tw.mv.cell (by show ¬ U.heap.size = l1; omega) (cell_at rfl rfl)
    have q1 : U2.cell? ⟨U.heap.size, 1, none⟩ = some (.int .i64 m') := tw.mv.cell (by show ¬ U.heap.size = l1; omega) (cell_at rfl rfl)
    have q2 : U2.cell? ⟨U.heap.size, 2, none⟩ = some (.int .i64 x) := tw.mv.cell (by show ¬ U.heap.size = l1; omega) (cell_at rfl rfl)
    clear hi hm
    cases hin : Cal.inL c.day x
    · have hf : (x :: rest).filter (Cal.inL c.day) = rest.filter (Cal.inL c.day) := by rw [List.filter_cons, hin]; rfl
      rw [hf] at hi2
      gi_wp2_with fail
      refine ⟨trivial, (CallsIn.inRound l1 (callsIn_wide.2 (dayIn_any c y m' x bc S E2 U2 hb3.box hb3.pin ho (by omega) (by omega)))).mono ?_⟩
      rintro e w' ⟨rfl, hbw⟩
      gi_wp2_with fail
      refine ⟨fun _ h => (by cases h), ?_⟩
      gi_wp2_with fail
      exact ⟨Mv.below hbw, E2, Gr.refl _ _, hxr, hJ.keep _ _ _ _ hi2 (Mv.below hbw)⟩
    · have hf : (x :: rest).filter (Cal.inL c.day) = x :: rest.filter (Cal.inL c.day) := by rw [List.filter_cons, hin]; rfl
      rw [hf] at hi2
      gi_wp2_with fail
      refine ⟨trivial, (CallsIn.inRound l1 (callsIn_wide.2 (dayIn_any c y m' x bc S E2 U2 hb3.box hb3.pin ho (by omega) (by omega)))).mono ?_⟩
      rintro e w' ⟨rfl, hbw⟩
      have hj' := hJ.keep _ _ _ _ hi2 (Mv.below hbw)
      have cy' : w'.cell? ⟨V.heap.size, 0, none⟩ = some (.func (.yield l) #[] #[]) := (Mv.below (E := fun _ => False) hbw).cell (fun h => h) (hm2.cell ey cy)
      have p0 := (Mv.below (E := fun _ => False) hbw).cell (fun h => h) q0
      have p1 := (Mv.below (E := fun _ => False) hbw).cell (fun h => h) q1
      have p2 := (Mv.below (E := fun _ => False) hbw).cell (fun h => h) q2
      obtain ⟨fn, tmps, assign, body, hy, hR⟩ := hY x _ E2 w' hj'
      dsimp only [encD] at hy
      gi_wp2_with fail
      refine (wide_round hR).mono ?_
      rintro e W3 ⟨m3, (⟨rfl, E3, g3, hj3⟩ | ⟨rfl, E3, g3, hj3⟩)⟩
      · gi_wp2_with fail
        exact ⟨(Mv.below hbw).trans' m3, E3, g3.mono hbw.size, hxr, hj3⟩
      · gi_wp2_with fail
        exact ⟨(Mv.below hbw).trans' m3, E3, g3.mono hbw.size, rfl, hj3⟩
  case done =>
    intro D E2 U hD hK hnD hm hg hi
    gi_wp2
    refine ⟨by simp, .inl ⟨_, _, rfl, run_takeDeferred hK, ?_⟩⟩
    exact ⟨_, results_none rfl _ _ _, ⟨_, rfl⟩, (mV.trans' hm).put_new (by omega) _, .inl ⟨E2, hg.mono mV.size, hJ.keep _ _ _ _ hi.2 (.put ⟨hnD, by omega⟩ _)⟩⟩
  case stop =>
    rintro D c E2 U hD hK hnD hm hg ⟨rfl, hi⟩
    gi_wp2
    refine ⟨by simp, .inl ⟨_, _, rfl, run_takeDeferred hK, ?_⟩⟩
    exact ⟨_, results_none rfl _ _ _, ⟨_, rfl⟩, (mV.trans' hm).put_new (by omega) _, .inr ⟨E2, hg.mono mV.size, hJx.keep _ _ _ _ hi (.put ⟨hnD, by omega⟩ _)⟩⟩
end Go.Proofs.YteaaknbininehabDoor
