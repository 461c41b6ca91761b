/- Contracts of package calendar's between and numbers: rows of numbers. -/
import Derived.Test.YteaaknbininehabDoorI1
namespace Go.Proofs.YteaaknbininehabDoor
open Go.RowKit Go.Shelf
attribute [local go_sem] Oper.semAt_some
def encI (n : Int) : Array Value := #[.int .i64 n]
set_option maxRecDepth 100000 in
set_option maxHeartbeats 2000000 in
theorem between1_row (lo hi : Int) (b1 b2 : Nat) (E : Nat → Prop) (W : World) (l0 : -10 ≤ lo) (l1 : lo ≤ 100000) (u0 : -10 ≤ hi) (u1 : hi ≤ 100000)
    (c1 : W.cell? ⟨b1, 0, none⟩ = some (.int .i64 lo)) (e1 : ¬ E b1) (c2 : W.cell? ⟨b2, 0, none⟩ = some (.int .i64 hi)) (e2 : ¬ E b2) :
    Row Tryd.prog 88 #[.pointer (some ⟨b1, 0, none⟩), .pointer (some ⟨b2, 0, none⟩)] encI (Cal.rng lo hi) E W := by
  intro l J Jx E1 V m g hJ hJx hY h0
  have d1 := m.cell e1 c1
  have d2 := m.cell e2 c2
  have f2 : ¬ E1 b2 := fun h => by
    rcases g b2 h with h | h
    · exact e2 h
    · have := cell_lt c2; simp only at this; omega
  refine (callsIn_wide (n := 5)).1 ?_
  refine callsIn_of_wp Tryd.func88 rfl trivial ?_ rfl
  simp only [Tryd.ntmps88, List.size_toArray, List.length_cons, List.length_nil, Nat.reduceAdd, Nat.reduceSub, Array.replicate_succ, Array.replicate_zero, List.push_toArray, List.append_toArray, List.nil_append, List.cons_append]
  gi_wp2
  gi_loopw [4] (fun i wr => ∃ (k : Int) (E2 : Nat → Prop), lo ≤ k ∧ k ≤ 100001 ∧ i = .int .i64 k ∧ J (Cal.rng k hi) E2 wr ∧ Mv E1 V wr ∧ Gr E1 V E2) (fun i _ => (100001 - intOf i).toNat)
  case atStart => exact ⟨lo, E1, by omega, by omega, rfl, h0, Mv.refl _ _, Gr.refl _ _⟩
  case round =>
    obtain ⟨k, E2, k0, k1, rfl, hj, hm, hg⟩ := hrel
    have d3 := hm.cell f2 d2
    by_cases hk : k ≤ hi
    · rw [Cal.rng_cons hk] at hj
      obtain ⟨fn, tmps, assign, body, hy, hR⟩ := hY k _ E2 wr hj
      dsimp only [encI] at hy
      gi_wp2
      refine (wide_round' hR).mono ?_
      rintro e W3 ⟨m3, (⟨rfl, E3, g3, hj3⟩ | ⟨rfl, E3, g3, hj3⟩)⟩
      · gi_wp2
        exact ⟨⟨k + 1, E3, by omega, by omega, rfl, hj3, hm.trans hg m3, hg.trans hm.size g3⟩, by simp [intOf]; omega⟩
      · gi_wp2
        refine bodyPost_ret (results_none rfl _ _ _) rfl ?_
        exact ⟨⟨_, rfl⟩, hm.trans hg m3, .inr ⟨E3, hg.trans hm.size g3, hj3⟩⟩
    · rw [Cal.rng_nil (by omega)] at hj
      gi_wp2
      go_end0
      exact ⟨⟨_, rfl⟩, hm, .inl ⟨E2, hg, hj⟩⟩
set_option maxHeartbeats 1000000 in
theorem numbers1_any (ps : List Part) (n : Int) (v : Value) (bc : Nat) (w : World) (hc : w.cell? ⟨bc, 0, none⟩ = some v) (hp : Pin (fun _ => False) w v ps) (hq : okL ps) (h0 : 0 ≤ n) (h1 : n ≤ 100000) :
    Calls Tryd.prog 75 #[.int .i64 n, .pointer (some ⟨bc, 0, none⟩)] w fun e w' => e = .returned (.bool (Cal.inL ps n)) ∧ Below w.heap.size w w' := by
  obtain ⟨p, cap, rfl, hl, hcell⟩ := hp
  go_enter Tryd.func75, Tryd.ntmps75
  go_wp2_with fail
  refine (isIn_any ps n _ _ ⟨p, cap, rfl, hl, hcell⟩ hq h0 h1).mono ?_
  rintro e w' ⟨rfl, hb⟩
  go_wp2_with fail
  go_ret
  exact ⟨rfl, hb⟩
/-- What the row 'numbers' has captured. -/
structure NumBox (E : Nat → Prop) (W : World) (r gd b1 b2 bc : Nat) (v : Value) (ps : List Part) (lo hi : Int) : Prop where
  cr : W.cell? ⟨r, 0, none⟩ = some (.func (.func 88) #[] #[.pointer (some ⟨b1, 0, none⟩), .pointer (some ⟨b2, 0, none⟩)])
  er : ¬ E r
  cg : W.cell? ⟨gd, 0, none⟩ = some (.func (.func 75) #[] #[.pointer (some ⟨bc, 0, none⟩)])
  eg : ¬ E gd
  c1 : W.cell? ⟨b1, 0, none⟩ = some (.int .i64 lo)
  e1 : ¬ E b1
  c2 : W.cell? ⟨b2, 0, none⟩ = some (.int .i64 hi)
  e2 : ¬ E b2
  cv : W.cell? ⟨bc, 0, none⟩ = some v
  ev : ¬ E bc
  hp : Pin E W v ps
theorem NumBox.mv {E E' : Nat → Prop} {W V : World} {r gd b1 b2 bc : Nat} {v : Value} {ps : List Part} {lo hi : Int} (h : NumBox E W r gd b1 b2 bc v ps lo hi) (m : Mv E W V) (g : Gr E W E') : NumBox E' V r gd b1 b2 bc v ps lo hi :=
  ⟨m.cell h.er h.cr, g.free (cell_lt h.cr) h.er, m.cell h.eg h.cg, g.free (cell_lt h.cg) h.eg, m.cell h.e1 h.c1, g.free (cell_lt h.c1) h.e1, m.cell h.e2 h.c2, g.free (cell_lt h.c2) h.e2, m.cell h.ev h.cv, g.free (cell_lt h.cv) h.ev, h.hp.mv m g⟩
set_option maxRecDepth 100000 in
set_option maxHeartbeats 4000000 in
theorem pickI_row (E : Nat → Prop) (W : World) (r gd b1 b2 bc : Nat) (v : Value) (ps : List Part) (lo hi : Int) (hb : NumBox E W r gd b1 b2 bc v ps lo hi) (hq : okL ps) (l0 : 0 ≤ lo) (l1 : lo ≤ 100000) (u0 : -10 ≤ hi) (u1 : hi ≤ 100000) :
    Row Tryd.prog 87 #[.pointer (some ⟨r, 0, none⟩), .pointer (some ⟨gd, 0, none⟩)] encI ((Cal.rng lo hi).filter (Cal.inL ps)) E W := by
  intro l J Jx E1 V m g hJ hJx hY h0
  have hb1 := hb.mv m g
  have cr := hb1.cr
  have rl : r < V.heap.size := cell_lt cr
  have hlow := hJ.low _ _ _ h0
  refine (callsIn_wide (n := 5)).1 ?_
  refine callsIn_of_wp_marks Tryd.func87 rfl trivial ?_ rfl
  simp only [Tryd.ntmps87, List.size_toArray, List.length_cons, List.length_nil, Nat.reduceAdd, Nat.reduceSub, Array.replicate_succ, Array.replicate_zero, List.push_toArray, List.append_toArray, List.nil_append, List.cons_append]
  gi_wp2
  have mV : Mv E1 V (V.alloc (.cells #[.func (.yield l) #[] #[]] 107)) := Mv.alloc _ _ _
  have cy : (V.alloc (.cells #[.func (.yield l) #[] #[]] 107)).cell? ⟨V.heap.size, 0, none⟩ = some (.func (.yield l) #[] #[]) := by simp
  have hs : (V.alloc (.cells #[.func (.yield l) #[] #[]] 107)).heap.size = V.heap.size + 1 := by simp
  have k0 : J ((Cal.rng lo hi).filter (Cal.inL ps)) E1 (V.alloc (.cells #[.func (.yield l) #[] #[]] 107)) := hJ.keep _ _ _ _ h0 (Mv.alloc _ _ _)
  revert mV cy hs k0
  generalize V.alloc (.cells #[.func (.yield l) #[] #[]] 107) = W0
  intro mV cy hs k0
  have hb2 := hb1.mv mV (Gr.refl _ _)
  have ey : ¬ E1 V.heap.size := fun h => by have := hlow _ h; omega
  clear cr rl
  have tI : Ter W0.heap.size (fun (rest : List Int) E2 W => (∀ y ∈ rest, 0 ≤ y ∧ y ≤ 100000) ∧ J (rest.filter (Cal.inL ps)) E2 W) := ((hJ.up (by omega)).comp (fun rest => List.filter (Cal.inL ps) rest)).and _
  refine loop_out (gf := 88) (lb := #[.pointer (some ⟨b1, 0, none⟩), .pointer (some ⟨b2, 0, none⟩)]) rfl (enters_of Tryd.func88 (by kernel_rfl) rfl)
    (between1_row lo hi b1 b2 E1 W0 (by omega) l1 u0 u1 hb2.c1 hb2.e1 hb2.c2 hb2.e2) (fun _ => rfl)
    (fun rest E2 W => (∀ y ∈ rest, 0 ≤ y ∧ y ≤ 100000) ∧ J (rest.filter (Cal.inL ps)) E2 W) (fun c E2 W => c = Code.ret ∧ Jx () E2 W) tI (((hJx.comp (fun _ => ())).up (by omega)).and (fun c => c = Code.ret))
    ⟨fun y hy => by have := (Cal.mem_rng _ _ _).1 hy; omega, k0⟩ ?round ?done ?stop
  case round =>
    intro l1 hl1 x rest E2 U hi hm hg hEl hrec
    simp only [encI]
    gi_wp2
    refine ⟨⟨Mv.refl _ _, trivial⟩, fun U2 tw => ?_⟩
    obtain ⟨⟨hx, hi2⟩, hm2⟩ := tw.go tI hi (Mv.refl _ _) hm (Nat.le_refl _) hl1 hEl
    have hb3 := hb2.mv hm2 hg
    have cg := hb3.cg
    have x0 := hx x (by simp)
    have hxr : ∀ y ∈ rest, 0 ≤ y ∧ y ≤ 100000 := fun y hy => hx y (by simp [hy])
    clear hi hm
    cases hin : Cal.inL ps x
    · have hf : (x :: rest).filter (Cal.inL ps) = rest.filter (Cal.inL ps) := by rw [List.filter_cons, hin]; rfl
      rw [hf] at hi2
      gi_wp2_with fail
      refine ⟨trivial, (CallsIn.inRound l1 (callsIn_wide.2 (numbers1_any ps x v bc U2 hb3.cv hb3.hp.none hq x0.1 x0.2))).mono ?_⟩
      rintro e w' ⟨rfl, hbw⟩
      gi_wp2_with fail
      refine ⟨fun _ h => (by cases h), ?_⟩
      gi_wp2_with fail
      exact ⟨Mv.below hbw, E2, Gr.refl _ _, hxr, hJ.keep _ _ _ _ hi2 (Mv.below hbw)⟩
    · have hf : (x :: rest).filter (Cal.inL ps) = x :: rest.filter (Cal.inL ps) := by rw [List.filter_cons, hin]; rfl
      rw [hf] at hi2
      gi_wp2_with fail
      refine ⟨trivial, (CallsIn.inRound l1 (callsIn_wide.2 (numbers1_any ps x v bc U2 hb3.cv hb3.hp.none hq x0.1 x0.2))).mono ?_⟩
      rintro e w' ⟨rfl, hbw⟩
      have hj' := hJ.keep _ _ _ _ hi2 (Mv.below hbw)
      have cy' : w'.cell? ⟨V.heap.size, 0, none⟩ = some (.func (.yield l) #[] #[]) := (Mv.below (E := fun _ => False) hbw).cell (fun h => h) (hm2.cell ey cy)
      obtain ⟨fn, tmps, assign, body, hy, hR⟩ := hY x _ E2 w' hj'
      dsimp only [encI] at hy
      gi_wp2_with fail
      refine (wide_round hR).mono ?_
      rintro e W3 ⟨m3, (⟨rfl, E3, g3, hj3⟩ | ⟨rfl, E3, g3, hj3⟩)⟩
      · gi_wp2_with fail
        exact ⟨(Mv.below hbw).trans' m3, E3, g3.mono hbw.size, hxr, hj3⟩
      · gi_wp2_with fail
        exact ⟨(Mv.below hbw).trans' m3, E3, g3.mono hbw.size, rfl, hj3⟩
  case done =>
    intro D E2 U hD hK hnD hm hg hi
    gi_wp2
    refine ⟨by simp, .inl ⟨_, _, rfl, run_takeDeferred hK, ?_⟩⟩
    exact ⟨_, results_none rfl _ _ _, ⟨_, rfl⟩, (mV.trans' hm).put_new (by omega) _, .inl ⟨E2, hg.mono mV.size, hJ.keep _ _ _ _ hi.2 (.put ⟨hnD, by omega⟩ _)⟩⟩
  case stop =>
    rintro D c E2 U hD hK hnD hm hg ⟨rfl, hi⟩
    gi_wp2
    refine ⟨by simp, .inl ⟨_, _, rfl, run_takeDeferred hK, ?_⟩⟩
    exact ⟨_, results_none rfl _ _ _, ⟨_, rfl⟩, (mV.trans' hm).put_new (by omega) _, .inr ⟨E2, hg.mono mV.size, hJx.keep _ _ _ _ hi (.put ⟨hnD, by omega⟩ _)⟩⟩
set_option maxHeartbeats 1000000 in
theorem numbers_any (ps : List Part) (v : Value) (lo hi : Int) (E : Nat → Prop) (w : World) (hp : Pin E w v ps) (hE : ∀ k, E k → k < w.heap.size) (hq : okL ps) (l0 : 0 ≤ lo) (l1 : lo ≤ 100000) (u0 : -10 ≤ hi) (u1 : hi ≤ 100000) :
    Calls Tryd.prog 56 #[v, .int .i64 lo, .int .i64 hi] w fun e w' => ∃ lb, e = .returned (.func (.func 87) #[] lb) ∧ Below w.heap.size w w' ∧ Row Tryd.prog 87 lb encI ((Cal.rng lo hi).filter (Cal.inL ps)) E w' := by
  have nE : ∀ k, w.heap.size ≤ k → ¬ E k := fun k hk h => by have := hE k h; omega
  obtain ⟨p, cap, rfl, hl, hcell⟩ := hp
  go_enter Tryd.func56, Tryd.ntmps56
  go_wp2
  go_ret
  refine ⟨_, rfl, ?_, ?_⟩
  · refine (((((Below.refl _ w).alloc (Nat.le_refl _) _).alloc ?_ _).alloc ?_ _).alloc ?_ _).alloc ?_ _ <;> simp <;> omega
  · refine pickI_row E _ _ _ (w.heap.size + 1) (w.heap.size + 1 + 1) w.heap.size (.slice p ps.length cap) ps lo hi ⟨?_, nE _ (by omega), ?_, nE _ (by omega), ?_, nE _ (by omega), ?_, nE _ (by omega), ?_, nE _ (by omega), ?_⟩ hq l0 l1 u0 u1
    iterate 5
      · repeat (first | exact cell_at (by simp) rfl | rw [cell_old (by simp <;> omega)])
    · refine Pin.mv (E := E) (W := w) ⟨p, cap, rfl, hl, hcell⟩ ?_ (Gr.refl _ _)
      exact (((((Mv.alloc _ _ _).trans' (Mv.alloc _ _ _)).trans' (Mv.alloc _ _ _)).trans' (Mv.alloc _ _ _)).trans' (Mv.alloc _ _ _))
end Go.Proofs.YteaaknbininehabDoor
