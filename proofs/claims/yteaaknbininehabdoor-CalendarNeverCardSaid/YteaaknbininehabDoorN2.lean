/- Contracts of package calendar's fields, Is, Next. -/
import Derived.Test.YteaaknbininehabDoorK0
import Derived.Test.YteaaknbininehabDoorN1
import Derived.Test.YteaaknbininehabDoorX1
namespace Go.Proofs.YteaaknbininehabDoor
open Go.RowKit
attribute [local go_sem] idx6
set_option maxHeartbeats 1000000 in
theorem fields_any (S : Nat → Sl) (w : World) :
    Calls Tryd.prog 19 #[aggC S] w fun e w' => e = .returned (.agg #[slv (S 1), slv (S 2), slv (S 3), slv (S 4), slv (S 5), slv (S 6)]) ∧ Below w.heap.size w w' := by
  go_enter Tryd.func19, Tryd.ntmps19
  go_wp2
  refine bodyPost_ret (v := .agg #[slv (S 1), slv (S 2), slv (S 3), slv (S 4), slv (S 5), slv (S 6)]) (by simp [results, Tryd.results19, go_sem]) rfl ⟨rfl, ?_⟩
  exact ((Below.refl _ w).alloc (Nat.le_refl _) _).alloc (by simp) _
def lstOf (c : Cal.C7) : Nat → List Part
  | 0 => c.year
  | 1 => c.month
  | 2 => c.day
  | 3 => c.hour
  | 4 => c.minute
  | _ => c.second
def loOf (k : Nat) : Int := limCells[2 * k]?.getD 0
def hiOf (k : Nat) : Int := limCells[2 * k + 1]?.getD 0
def fbOf (c : Cal.C7) (k : Nat) : Bool := isFB (lstOf c k) (loOf k) (hiOf k)
theorem isB_six {c : Cal.C7} (h : ∀ j, j < 6 → fbOf c j = true) : isB c = isWB c.week := by
  have a0 : isFB c.year 1970 2200 = true := h 0 (by omega)
  have a1 : isFB c.month 1 12 = true := h 1 (by omega)
  have a2 : isFB c.day 1 31 = true := h 2 (by omega)
  have a3 : isFB c.hour 0 23 = true := h 3 (by omega)
  have a4 : isFB c.minute 0 59 = true := h 4 (by omega)
  have a5 : isFB c.second 0 59 = true := h 5 (by omega)
  unfold isB; rw [a0, a1, a2, a3, a4, a5]; simp
theorem isB_not {c : Cal.C7} {k : Nat} (hk : k < 6) (h : fbOf c k = false) : isB c = false := by
  have hk' : k = 0 ∨ k = 1 ∨ k = 2 ∨ k = 3 ∨ k = 4 ∨ k = 5 := by omega
  unfold isB
  rcases hk' with rfl | rfl | rfl | rfl | rfl | rfl
  · rw [show isFB c.year 1970 2200 = false from h]; rfl
  · rw [show isFB c.month 1 12 = false from h]; simp
  · rw [show isFB c.day 1 31 = false from h]; simp
  · rw [show isFB c.hour 0 23 = false from h]; simp
  · rw [show isFB c.minute 0 59 = false from h]; simp
  · rw [show isFB c.second 0 59 = false from h]; simp
theorem fb_next {c : Cal.C7} {k : Nat} (h : ∀ j, j < k → fbOf c j = true) (hk : fbOf c k = true) : ∀ j, j < k + 1 → fbOf c j = true := fun j hj => by
  by_cases e : j < k
  · exact h j e
  · obtain rfl : j = k := by omega
    exact hk
theorem pin_len {E : Nat → Prop} {W : World} {s : Sl} {ps : List Part} (h : Pin E W (slv s) ps) : s.2.1 = ps.length := by
  obtain ⟨p, cap, hv, _⟩ := h
  injection hv with h1 h2 h3
set_option maxRecDepth 100000 in
set_option maxHeartbeats 4000000 in
theorem isC_any (S : Nat → Sl) (c : Cal.C7) (w : World) (hp : CalPin (fun _ => False) w S c) (hg : Gl (fun _ => False) w) :
    Calls Tryd.prog 14 #[aggC S] w fun e w' => e = .returned (.bool (isB c)) ∧ Below w.heap.size w w' := by
  have hB0 : Below w.heap.size w (w.alloc (.cells #[slv (S 0), slv (S 1), slv (S 2), slv (S 3), slv (S 4), slv (S 5), slv (S 6)] 26)) := (Below.refl _ _).alloc (Nat.le_refl _) _
  have z0 : (w.alloc (.cells #[slv (S 0), slv (S 1), slv (S 2), slv (S 3), slv (S 4), slv (S 5), slv (S 6)] 26)).cell? ⟨w.heap.size, 0, none⟩ = some (slv (S 0)) := cell_at rfl rfl
  go_enter Tryd.func14, Tryd.ntmps14
  go_wp2_with fail
  refine (fields_any S _).mono ?_
  rintro e w1 ⟨rfl, hb1⟩
  have y0 : w1.cell? ⟨w.heap.size, 0, none⟩ = some (slv (S 0)) := (hb1.cell (p := ⟨w.heap.size, 0, none⟩) (by simp)).trans z0
  have hw1 : Below w.heap.size w w1 := hB0.trans (hb1.mono (by simp))
  have wl : w.heap.size < w1.heap.size := cell_lt y0
  clear z0 hb1 hB0
  go_wp2_with fail
  go_loopw [7] (fun i wr => ∃ (k : Nat) (z : Int), k ≤ 6 ∧ z = k ∧ i = .int .i64 z ∧ (∀ j, j < k → fbOf c j = true) ∧ Below w1.heap.size w1 wr) (fun i _ => 6 - (intOf i).toNat)
  case atStart => exact ⟨0, 0, by omega, rfl, rfl, fun j hj => by omega, Below.refl _ _⟩
  case round =>
    obtain ⟨k, z, hk, hz, rfl, hno, hb⟩ := hrel
    have hbw : Below w.heap.size w wr := hw1.trans (hb.mono (by omega))
    have hpr := hp.mv (Mv.below hbw) (Gr.refl _ _)
    have hgr := hg.mv (Mv.below hbw) (Gr.refl _ _)
    by_cases hk6 : k < 6
    · have hk' : k = 0 ∨ k = 1 ∨ k = 2 ∨ k = 3 ∨ k = 4 ∨ k = 5 := by omega
      obtain ⟨q, hq, hql⟩ : ∃ q : Pin (fun _ => False) wr (slv (S (k + 1))) (lstOf c k), True ∧ (S (k + 1)).2.1 = (lstOf c k).length := by
        rcases hk' with rfl | rfl | rfl | rfl | rfl | rfl
        · exact ⟨hpr.p1, trivial, pin_len hpr.p1⟩
        · exact ⟨hpr.p2, trivial, pin_len hpr.p2⟩
        · exact ⟨hpr.p3, trivial, pin_len hpr.p3⟩
        · exact ⟨hpr.p4, trivial, pin_len hpr.p4⟩
        · exact ⟨hpr.p5, trivial, pin_len hpr.p5⟩
        · exact ⟨hpr.p6, trivial, pin_len hpr.p6⟩
      have hkz : (k = 0 ∧ z = 0) ∨ (k = 1 ∧ z = 1) ∨ (k = 2 ∧ z = 2) ∨ (k = 3 ∧ z = 3) ∨ (k = 4 ∧ z = 4) ∨ (k = 5 ∧ z = 5) := by omega
      clear hz
      have ll := q.choose_spec.choose_spec.2.1
      have x0 : wr.cell? ⟨0, 2 * k, none⟩ = some (.int .i64 (loOf k)) := by
        rcases hk' with rfl | rfl | rfl | rfl | rfl | rfl <;> exact hgr.lim _ _ rfl
      have x1 : wr.cell? ⟨0, 2 * k + 1, none⟩ = some (.int .i64 (hiOf k)) := by
        rcases hk' with rfl | rfl | rfl | rfl | rfl | rfl <;> exact hgr.lim _ _ rfl
      have hNx := fun h => fb_next (c := c) (k := k) hno h
      have hNo := fun h => isB_not (c := c) (k := k) hk6 h
      unfold fbOf isFB at hNx hNo
      revert q hql ll x0 x1 hNx hNo
      generalize hL : lstOf c k = L
      generalize loOf k = lo
      generalize hiOf k = hi
      intro q hql ll x0 x1 hNx hNo
      cases L with
      | nil =>
        have hF := hNo rfl
        have hF' : Hid (isB c = false) := hF
        clear hNx hNo hF
        simp only [List.length_nil] at hql
        rcases hkz with ⟨rfl, rfl⟩ | ⟨rfl, rfl⟩ | ⟨rfl, rfl⟩ | ⟨rfl, rfl⟩ | ⟨rfl, rfl⟩ | ⟨rfl, rfl⟩
        all_goals
          simp only [Nat.reduceAdd, Nat.reduceMul] at q hql x0 x1
          go_wp2_with fail
          go_ret
          exact ⟨ret_bool hF'.out.symm, hbw⟩
      | cons a r =>
        have hne : ¬ (S (k + 1)).2.1 = 0 := by rw [hql]; simp
        cases hfit : isLB (a :: r) lo hi
        · have hF : Hid (isB c = false) := hNo (by rw [hfit]; rfl)
          clear hNx hNo
          rcases hkz with ⟨rfl, rfl⟩ | ⟨rfl, rfl⟩ | ⟨rfl, rfl⟩ | ⟨rfl, rfl⟩ | ⟨rfl, rfl⟩ | ⟨rfl, rfl⟩
          all_goals
            simp only [Nat.reduceAdd, Nat.reduceMul] at q hql x0 x1
            go_wp2_with fail
            refine (isList_any (a :: r) lo hi _ wr q).mono ?_
            rintro e w2 ⟨rfl, hb2⟩
            go_wp2_with fail
            go_ret
            exact ⟨ret_bool hF.out.symm, hbw.trans (hb2.mono hbw.size)⟩
        · have hN := hNx (by rw [hfit]; rfl)
          clear hNx hNo
          rcases hkz with ⟨rfl, rfl⟩ | ⟨rfl, rfl⟩ | ⟨rfl, rfl⟩ | ⟨rfl, rfl⟩ | ⟨rfl, rfl⟩ | ⟨rfl, rfl⟩
          all_goals
            simp only [Nat.reduceAdd, Nat.reduceMul] at q hql x0 x1
            go_wp2_with fail
            refine (isList_any (a :: r) lo hi _ wr q).mono ?_
            rintro e w2 ⟨rfl, hb2⟩
            go_wp2_with fail
            exact ⟨⟨_, _, (by decide), rfl, rfl, hN, hb.trans (hb2.mono hb.size)⟩, by simp [intOf]⟩
    · obtain rfl : k = 6 := by omega
      obtain rfl : z = 6 := by omega
      have hI : Hid (isB c = isWB c.week) := isB_six hno
      have x0 : wr.cell? ⟨w.heap.size, 0, none⟩ = some (slv (S 0)) := (hb.cell (p := ⟨w.heap.size, 0, none⟩) wl).trans y0
      clear hno hz hk6 hk
      go_wp2_with fail
      refine (isWeek_any c.week _ wr hpr.p0).mono ?_
      rintro e w2 ⟨rfl, hb2⟩
      go_wp2_with fail
      go_ret
      exact ⟨ret_bool hI.out.symm, hbw.trans (hb2.mono hbw.size)⟩
set_option maxHeartbeats 1000000 in
theorem next_any (S : Nat → Sl) (c : Cal.C7) (t : Int) (w : World) (hp : CalPin (fun _ => False) w S c) (hg : Gl (fun _ => False) w) (tmax : t ≤ 9223372036854775807) :
    Calls Tryd.prog 8 #[aggC S, .int .i64 t] w fun e w' => e = .returned (.tuple #[.int .i64 (if isB c = true then (Cal.nx c t).getD 0 else 0), .bool (isB c && (Cal.nx c t).isSome)]) ∧ Below w.heap.size w w' := by
  have hB0 : Below w.heap.size w (w.alloc (.cells #[slv (S 0), slv (S 1), slv (S 2), slv (S 3), slv (S 4), slv (S 5), slv (S 6)] 26)) := (Below.refl _ _).alloc (Nat.le_refl _) _
  have hp0 := hp.mv (Mv.below hB0) (Gr.refl _ _)
  have hg0 := hg.mv (Mv.below hB0) (Gr.refl _ _)
  have hbx : CalBox (fun _ => False) (w.alloc (.cells #[slv (S 0), slv (S 1), slv (S 2), slv (S 3), slv (S 4), slv (S 5), slv (S 6)] 26)) w.heap.size S c := calBox_new S c _ (fun _ h => h.elim)
  cases hI : isB c
  · go_enter Tryd.func8, Tryd.ntmps8
    go_wp2_with fail
    refine (isC_any S c _ hp0 hg0).mono ?_
    rintro e w1 ⟨rfl, hb1⟩
    go_wp2_with fail
    go_ret2
    exact ⟨rfl, hB0.trans (hb1.mono (by simp))⟩
  · have ho := isB_ok hI
    go_enter Tryd.func8, Tryd.ntmps8
    go_wp2_with fail
    refine (isC_any S c _ hp0 hg0).mono ?_
    rintro e w1 ⟨rfl, hb1⟩
    have hbx1 := hbx.mv (Mv.below hb1) (Gr.refl _ _)
    have hp1 := hp0.mv (Mv.below hb1) (Gr.refl _ _)
    have hg1 := hg0.mv (Mv.below hb1) (Gr.refl _ _)
    have k0 := hbx1.c0
    have k1 := hbx1.c1
    have k2 := hbx1.c2
    have k3 := hbx1.c3
    have k4 := hbx1.c4
    have k5 := hbx1.c5
    have k6 := hbx1.c6
    go_wp2_with fail
    refine (timesAbove_any S c t (fun _ => False) w1 hp1 hg1 (fun _ h => h.elim) ho tmax).mono ?_
    rintro e w2 ⟨lb, rfl, hb2, hrow⟩
    go_wp2_with fail
    refine (first_any lb (Cal.ts c t) w2 hrow).mono ?_
    rintro e w3 ⟨rfl, hb3⟩
    have hz1 := hb1.size
    have hz2 := hb2.size
    simp at hz1
    go_wp2_with fail
    go_ret2
    exact ⟨rfl, (hB0.trans (hb1.mono (by simp))).trans ((hb2.mono (by omega)).trans (hb3.mono (by omega)))⟩
end Go.Proofs.YteaaknbininehabDoor
