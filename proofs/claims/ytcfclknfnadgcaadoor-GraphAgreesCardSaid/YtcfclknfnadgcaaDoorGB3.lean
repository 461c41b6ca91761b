/- reveillehelp.Few. -/
import Derived.Test.YtcfclknfnadgcaaDoorGB2
namespace Go.Proofs.YtcfclknfnadgcaaDoor
open Go.RowKit Go.Shelf Go.Lib
/-- A unit that is looked at. -/
def FewS (u : Un) : Prop := u.nm.size ≤ 100 ∧ u.tg.size ≤ 100 ∧ (∀ i, i < 7 → (u.ls i).length ≤ 16 ∧ ∀ x ∈ u.ls i, x.size ≤ 100) ∧ ∀ i, i < 13 → (u.ls i).length ≤ 16
/-- What Few answers: where it says yes, a unit's name and its lists are short. -/
def FwE (u : Un) (w : World) (e : Ending) (w' : World) : Prop := ∃ q, e = .returned (.bool q) ∧ (q = true → FewS u) ∧ Below w.heap.size w w'
set_option maxRecDepth 100000 in
set_option maxHeartbeats 16000000 in
theorem few_any (vs : Array Value) (u : Un) (w : World) (h : UW w vs u) :
    Calls Tryd.prog 17 #[.agg vs] w (FwE u w) := by
  obtain ⟨B, hB⟩ : ∃ B, w.heap.size = B := ⟨_, rfl⟩
  obtain ⟨W, hW⟩ : ∃ W, w.alloc (.cells vs 29) = W := ⟨_, rfl⟩
  have bW : Below w.heap.size w W := by rw [← hW]; exact (Below.refl _ _).alloc (Nat.le_refl _) _
  have ub : ∀ p v, vs[p]? = some v → W.cell? ⟨B, p, none⟩ = some v := fun p v hp => by rw [← hW]; exact cell_at hB hp
  have hU := h.mv (E := fun _ => False) (Mv.below bW) (fun _ _ q => q)
  have hs := h.ss
  obtain ⟨s24, e24⟩ := h.tx 24 (by omega)
  obtain ⟨s31, e31⟩ := h.tx 31 (by omega)
  obtain ⟨s32, e32⟩ := h.tx 32 (by omega)
  have k0 := ub 0 _ h.c0
  have k24 := ub 24 _ e24
  have k25 := ub 25 _ h.c25
  have k31 := ub 31 _ e31
  have k32 := ub 32 _ e32
  obtain ⟨v0, q0, r0⟩ := hU.ls 0 3 rfl
  have k3 := ub 3 _ q0
  have h0 := hidP (short_any v0 (u.ls 0) 16 100 W r0 (hs 0))
  obtain ⟨a0, n0, c0, g0⟩ : ∃ a n c, v0 = .slice a n c := by rcases r0 with ⟨_, p, c, e⟩ | ⟨g, o, c, e, _⟩ <;> exact ⟨_, _, _, e⟩
  subst g0
  obtain ⟨v1, q1, r1⟩ := hU.ls 1 4 rfl
  have k4 := ub 4 _ q1
  have h1 := hidP (short_any v1 (u.ls 1) 16 100 W r1 (hs 1))
  obtain ⟨a1, n1, c1, g1⟩ : ∃ a n c, v1 = .slice a n c := by rcases r1 with ⟨_, p, c, e⟩ | ⟨g, o, c, e, _⟩ <;> exact ⟨_, _, _, e⟩
  subst g1
  obtain ⟨v2, q2, r2⟩ := hU.ls 2 5 rfl
  have k5 := ub 5 _ q2
  have h2 := hidP (short_any v2 (u.ls 2) 16 100 W r2 (hs 2))
  obtain ⟨a2, n2, c2, g2⟩ : ∃ a n c, v2 = .slice a n c := by rcases r2 with ⟨_, p, c, e⟩ | ⟨g, o, c, e, _⟩ <;> exact ⟨_, _, _, e⟩
  subst g2
  obtain ⟨v3, q3, r3⟩ := hU.ls 3 6 rfl
  have k6 := ub 6 _ q3
  have h3 := hidP (short_any v3 (u.ls 3) 16 100 W r3 (hs 3))
  obtain ⟨a3, n3, c3, g3⟩ : ∃ a n c, v3 = .slice a n c := by rcases r3 with ⟨_, p, c, e⟩ | ⟨g, o, c, e, _⟩ <;> exact ⟨_, _, _, e⟩
  subst g3
  obtain ⟨v4, q4, r4⟩ := hU.ls 4 7 rfl
  have k7 := ub 7 _ q4
  have h4 := hidP (short_any v4 (u.ls 4) 16 100 W r4 (hs 4))
  obtain ⟨a4, n4, c4, g4⟩ : ∃ a n c, v4 = .slice a n c := by rcases r4 with ⟨_, p, c, e⟩ | ⟨g, o, c, e, _⟩ <;> exact ⟨_, _, _, e⟩
  subst g4
  obtain ⟨v5, q5, r5⟩ := hU.ls 5 8 rfl
  have k8 := ub 8 _ q5
  have h5 := hidP (short_any v5 (u.ls 5) 16 100 W r5 (hs 5))
  obtain ⟨a5, n5, c5, g5⟩ : ∃ a n c, v5 = .slice a n c := by rcases r5 with ⟨_, p, c, e⟩ | ⟨g, o, c, e, _⟩ <;> exact ⟨_, _, _, e⟩
  subst g5
  obtain ⟨v6, q6, r6⟩ := hU.ls 6 9 rfl
  have k9 := ub 9 _ q6
  have h6 := hidP (short_any v6 (u.ls 6) 16 100 W r6 (hs 6))
  obtain ⟨a6, n6, c6, g6⟩ : ∃ a n c, v6 = .slice a n c := by rcases r6 with ⟨_, p, c, e⟩ | ⟨g, o, c, e, _⟩ <;> exact ⟨_, _, _, e⟩
  subst g6
  obtain ⟨v7, q7, r7⟩ := hU.ls 7 14 rfl
  have k14 := ub 14 _ q7
  have h7 := hidP (short_any v7 (u.ls 7) 16 300 W r7 (hs 7))
  obtain ⟨a7, n7, c7, g7⟩ : ∃ a n c, v7 = .slice a n c := by rcases r7 with ⟨_, p, c, e⟩ | ⟨g, o, c, e, _⟩ <;> exact ⟨_, _, _, e⟩
  subst g7
  obtain ⟨v8, q8, r8⟩ := hU.ls 8 15 rfl
  have k15 := ub 15 _ q8
  have h8 := hidP (short_any v8 (u.ls 8) 16 300 W r8 (hs 8))
  obtain ⟨a8, n8, c8, g8⟩ : ∃ a n c, v8 = .slice a n c := by rcases r8 with ⟨_, p, c, e⟩ | ⟨g, o, c, e, _⟩ <;> exact ⟨_, _, _, e⟩
  subst g8
  obtain ⟨v9, q9, r9⟩ := hU.ls 9 16 rfl
  have k16 := ub 16 _ q9
  have h9 := hidP (short_any v9 (u.ls 9) 16 300 W r9 (hs 9))
  obtain ⟨a9, n9, c9, g9⟩ : ∃ a n c, v9 = .slice a n c := by rcases r9 with ⟨_, p, c, e⟩ | ⟨g, o, c, e, _⟩ <;> exact ⟨_, _, _, e⟩
  subst g9
  obtain ⟨v10, q10, r10⟩ := hU.ls 10 28 rfl
  have k28 := ub 28 _ q10
  have h10 := hidP (short_any v10 (u.ls 10) 6 100 W r10 (hs 10))
  obtain ⟨a10, n10, c10, g10⟩ : ∃ a n c, v10 = .slice a n c := by rcases r10 with ⟨_, p, c, e⟩ | ⟨g, o, c, e, _⟩ <;> exact ⟨_, _, _, e⟩
  subst g10
  obtain ⟨v11, q11, r11⟩ := hU.ls 11 29 rfl
  have k29 := ub 29 _ q11
  have h11 := hidP (short_any v11 (u.ls 11) 16 300 W r11 (hs 11))
  obtain ⟨a11, n11, c11, g11⟩ : ∃ a n c, v11 = .slice a n c := by rcases r11 with ⟨_, p, c, e⟩ | ⟨g, o, c, e, _⟩ <;> exact ⟨_, _, _, e⟩
  subst g11
  obtain ⟨v12, q12, r12⟩ := hU.ls 12 30 rfl
  have k30 := ub 30 _ q12
  have h12 := hidP (short_any v12 (u.ls 12) 16 300 W r12 (hs 12))
  obtain ⟨a12, n12, c12, g12⟩ : ∃ a n c, v12 = .slice a n c := by rcases r12 with ⟨_, p, c, e⟩ | ⟨g, o, c, e, _⟩ <;> exact ⟨_, _, _, e⟩
  subst g12
  clear hU ub h hs e24 e31 e32 q0 r0 q1 r1 q2 r2 q3 r3 q4 r4 q5 r5 q6 r6 q7 r7 q8 r8 q9 r9 q10 r10 q11 r11 q12 r12
  have bWH := hidP bW
  clear bW
  go_enter Tryd.func17, Tryd.ntmps17
  by_cases t0 : (u.nm.size : Int) ≤ 100
  case neg =>
    have f0 : decide ((u.nm.size : Int) ≤ 100) = false := decide_eq_false t0
    go_wp2_with (first | rw [hB] | rw [hW])
    go_ret
    exact ⟨false, rfl, (fun q => by cases q), bWH.out⟩
  by_cases t24 : (s24.size : Int) ≤ 300
  case neg =>
    have f24 : decide ((s24.size : Int) ≤ 300) = false := decide_eq_false t24
    go_wp2_with (first | rw [hB] | rw [hW])
    go_ret
    exact ⟨false, rfl, (fun q => by cases q), bWH.out⟩
  by_cases t25 : (u.tg.size : Int) ≤ 100
  case neg =>
    have f25 : decide ((u.tg.size : Int) ≤ 100) = false := decide_eq_false t25
    go_wp2_with (first | rw [hB] | rw [hW])
    go_ret
    exact ⟨false, rfl, (fun q => by cases q), bWH.out⟩
  by_cases t31 : (s31.size : Int) ≤ 300
  case neg =>
    have f31 : decide ((s31.size : Int) ≤ 300) = false := decide_eq_false t31
    go_wp2_with (first | rw [hB] | rw [hW])
    go_ret
    exact ⟨false, rfl, (fun q => by cases q), bWH.out⟩
  by_cases t32 : (s32.size : Int) ≤ 300
  case neg =>
    have f32 : decide ((s32.size : Int) ≤ 300) = false := decide_eq_false t32
    go_wp2_with (first | rw [hB] | rw [hW])
    go_ret
    exact ⟨false, rfl, (fun q => by cases q), bWH.out⟩
  go_wp2_with (first | rw [hB] | rw [hW])
  refine h0.out.mono ?_
  rintro e W0 ⟨q, rfl, x0, rfl⟩
  cases q
  case false =>
    go_wp2_with fail
    go_ret
    exact ⟨false, rfl, (fun q => by cases q), bWH.out⟩
  have y0 := hidP (x0 rfl)
  clear x0 h0
  go_wp2_with fail
  refine h1.out.mono ?_
  rintro e W1 ⟨q, rfl, x1, rfl⟩
  cases q
  case false =>
    go_wp2_with fail
    go_ret
    exact ⟨false, rfl, (fun q => by cases q), bWH.out⟩
  have y1 := hidP (x1 rfl)
  clear x1 h1
  go_wp2_with fail
  refine h2.out.mono ?_
  rintro e W2 ⟨q, rfl, x2, rfl⟩
  cases q
  case false =>
    go_wp2_with fail
    go_ret
    exact ⟨false, rfl, (fun q => by cases q), bWH.out⟩
  have y2 := hidP (x2 rfl)
  clear x2 h2
  go_wp2_with fail
  refine h3.out.mono ?_
  rintro e W3 ⟨q, rfl, x3, rfl⟩
  cases q
  case false =>
    go_wp2_with fail
    go_ret
    exact ⟨false, rfl, (fun q => by cases q), bWH.out⟩
  have y3 := hidP (x3 rfl)
  clear x3 h3
  go_wp2_with fail
  refine h4.out.mono ?_
  rintro e W4 ⟨q, rfl, x4, rfl⟩
  cases q
  case false =>
    go_wp2_with fail
    go_ret
    exact ⟨false, rfl, (fun q => by cases q), bWH.out⟩
  have y4 := hidP (x4 rfl)
  clear x4 h4
  go_wp2_with fail
  refine h5.out.mono ?_
  rintro e W5 ⟨q, rfl, x5, rfl⟩
  cases q
  case false =>
    go_wp2_with fail
    go_ret
    exact ⟨false, rfl, (fun q => by cases q), bWH.out⟩
  have y5 := hidP (x5 rfl)
  clear x5 h5
  go_wp2_with fail
  refine h6.out.mono ?_
  rintro e W6 ⟨q, rfl, x6, rfl⟩
  cases q
  case false =>
    go_wp2_with fail
    go_ret
    exact ⟨false, rfl, (fun q => by cases q), bWH.out⟩
  have y6 := hidP (x6 rfl)
  clear x6 h6
  go_wp2_with fail
  refine h7.out.mono ?_
  rintro e W7 ⟨q, rfl, x7, rfl⟩
  cases q
  case false =>
    go_wp2_with fail
    go_ret
    exact ⟨false, rfl, (fun q => by cases q), bWH.out⟩
  have y7 := hidP (x7 rfl)
  clear x7 h7
  go_wp2_with fail
  refine h8.out.mono ?_
  rintro e W8 ⟨q, rfl, x8, rfl⟩
  cases q
  case false =>
    go_wp2_with fail
    go_ret
    exact ⟨false, rfl, (fun q => by cases q), bWH.out⟩
  have y8 := hidP (x8 rfl)
  clear x8 h8
  go_wp2_with fail
  refine h9.out.mono ?_
  rintro e W9 ⟨q, rfl, x9, rfl⟩
  cases q
  case false =>
    go_wp2_with fail
    go_ret
    exact ⟨false, rfl, (fun q => by cases q), bWH.out⟩
  have y9 := hidP (x9 rfl)
  clear x9 h9
  go_wp2_with fail
  refine h10.out.mono ?_
  rintro e W10 ⟨q, rfl, x10, rfl⟩
  cases q
  case false =>
    go_wp2_with fail
    go_ret
    exact ⟨false, rfl, (fun q => by cases q), bWH.out⟩
  have y10 := hidP (x10 rfl)
  clear x10 h10
  go_wp2_with fail
  refine h11.out.mono ?_
  rintro e W11 ⟨q, rfl, x11, rfl⟩
  cases q
  case false =>
    go_wp2_with fail
    go_ret
    exact ⟨false, rfl, (fun q => by cases q), bWH.out⟩
  have y11 := hidP (x11 rfl)
  clear x11 h11
  go_wp2_with fail
  refine h12.out.mono ?_
  rintro e W12 ⟨q, rfl, x12, rfl⟩
  cases q
  case false =>
    go_wp2_with fail
    go_ret
    exact ⟨false, rfl, (fun q => by cases q), bWH.out⟩
  have y12 := hidP (x12 rfl)
  clear x12 h12
  go_wp2_with fail
  go_ret
  refine ⟨true, rfl, fun _ => ⟨by omega, by omega, fun i hi => ?_, fun i hi => ?_⟩, bWH.out⟩
  · match i, hi with
    | 0, _ => exact y0.out
    | 1, _ => exact y1.out
    | 2, _ => exact y2.out
    | 3, _ => exact y3.out
    | 4, _ => exact y4.out
    | 5, _ => exact y5.out
    | 6, _ => exact y6.out
    | i + 7, hi => omega
  · match i, hi with
    | 0, _ => exact y0.out.1
    | 1, _ => exact y1.out.1
    | 2, _ => exact y2.out.1
    | 3, _ => exact y3.out.1
    | 4, _ => exact y4.out.1
    | 5, _ => exact y5.out.1
    | 6, _ => exact y6.out.1
    | 7, _ => exact y7.out.1
    | 8, _ => exact y8.out.1
    | 9, _ => exact y9.out.1
    | 10, _ => exact Nat.le_trans y10.out.1 (by decide)
    | 11, _ => exact y11.out.1
    | 12, _ => exact y12.out.1
    | i + 13, hi => omega
end Go.Proofs.YtcfclknfnadgcaaDoor
