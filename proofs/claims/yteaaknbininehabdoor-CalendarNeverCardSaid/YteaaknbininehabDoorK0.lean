/- What an expression is: plain; contracts of package calendar's fits, isList, isWeek, fields, Is. -/
import Derived.Test.YteaaknbininehabDoorS1
namespace Go.Proofs.YteaaknbininehabDoor
open Go.RowKit
def fitsB (q : Part) (lo hi : Int) : Bool := if q.1 = true then (decide (q.2.1 = 0) && (decide (q.2.2.1 = 0) && decide (q.2.2.2 = 0))) else (decide (lo ≤ q.2.1) && (decide (q.2.1 ≤ q.2.2.1) && (decide (q.2.2.1 ≤ hi) && (decide (0 ≤ q.2.2.2) && decide (q.2.2.2 ≤ hi)))))
def badP (n : Nat) (lo hi : Int) (q : Part) : Bool := !fitsB q lo hi || (q.1 && decide (1 < n))
def isLB (ps : List Part) (lo hi : Int) : Bool := decide (ps.length ≤ 12) && !(ps.any (badP ps.length lo hi))
def wkP (q : Part) : Bool := q.1 || decide (q.2.2.2 ≠ 0)
def isWB (ps : List Part) : Bool := isLB ps 0 6 && !(ps.any wkP)
def isFB (ps : List Part) (lo hi : Int) : Bool := !ps.isEmpty && isLB ps lo hi
def isB (c : Cal.C7) : Bool := isFB c.year 1970 2200 && (isFB c.month 1 12 && (isFB c.day 1 31 && (isFB c.hour 0 23 && (isFB c.minute 0 59 && (isFB c.second 0 59 && isWB c.week)))))
theorem fits_ok {q : Part} {lo hi : Int} (h : fitsB q lo hi = true) (h0 : 0 ≤ lo) (h1 : hi ≤ 2200) : okP q := by
  unfold fitsB at h
  unfold okP
  split at h <;> simp at h <;> omega
theorem isLB_ok {ps : List Part} {lo hi : Int} (h : isLB ps lo hi = true) (h0 : 0 ≤ lo) (h1 : hi ≤ 2200) : okL ps := by
  unfold isLB at h
  simp only [Bool.and_eq_true, Bool.not_eq_true', List.any_eq_false] at h
  intro q hq
  have := h.2 q hq
  unfold badP at this
  simp only [Bool.or_eq_true, not_or, Bool.not_eq_true, Bool.not_eq_false'] at this
  exact fits_ok this.1 h0 h1
theorem isB_ok {c : Cal.C7} (h : isB c = true) : CalOk c := by
  unfold isB isFB isWB at h
  simp only [Bool.and_eq_true] at h
  obtain ⟨⟨_, h1⟩, ⟨_, h2⟩, ⟨_, h3⟩, ⟨_, h4⟩, ⟨_, h5⟩, ⟨_, h6⟩, h7, _⟩ := h
  exact ⟨isLB_ok h7 (by omega) (by omega), isLB_ok h1 (by omega) (by omega), isLB_ok h2 (by omega) (by omega), isLB_ok h3 (by omega) (by omega), isLB_ok h4 (by omega) (by omega), isLB_ok h5 (by omega) (by omega), isLB_ok h6 (by omega) (by omega)⟩
set_option maxHeartbeats 1000000 in
theorem fits_any (q : Part) (lo hi : Int) (w : World) :
    Calls Tryd.prog 52 #[aggP q, .agg #[.int .i64 lo, .int .i64 hi]] w fun e w' => e = .returned (.bool (fitsB q lo hi)) ∧ Below w.heap.size w w' := by
  obtain ⟨a, f, t, s⟩ := q
  dsimp only [aggP]
  cases a
  all_goals
    go_enter Tryd.func52, Tryd.ntmps52
    go_wp2
  all_goals go_ret
  all_goals refine ⟨ret_bool ?_, ((Below.refl _ _).alloc (Nat.le_refl _) _).alloc (by simp) _⟩
  all_goals (unfold fitsB; rw [Bool.eq_iff_iff]; simp_all)
  all_goals (intros; omega)
set_option maxHeartbeats 1000000 in
theorem isWeek1_any (q : Part) (w : World) :
    Calls Tryd.prog 53 #[aggP q] w fun e w' => e = .returned (.bool (wkP q)) ∧ Below w.heap.size w w' := by
  obtain ⟨a, f, t, s⟩ := q
  dsimp only [aggP]
  cases a
  all_goals
    go_enter Tryd.func53, Tryd.ntmps53
    go_wp2
  all_goals go_ret
  all_goals refine ⟨ret_bool ?_, (Below.refl _ _).alloc (Nat.le_refl _) _⟩
  all_goals (unfold wkP; rw [Bool.eq_iff_iff]; simp_all)
theorem any_upto {ps : List Part} {g : Part → Bool} {k : Nat} (h : ∀ j, j < k → ∀ q, ps[j]? = some q → g q = false) (hk : ps.length ≤ k) : ps.any g = false := by
  rw [List.any_eq_false]
  intro q hq
  obtain ⟨j, hj⟩ := List.mem_iff_getElem?.1 hq
  have hl : j < ps.length := (List.getElem?_eq_some_iff.1 hj).1
  simp [h j (by omega) q hj]
theorem any_at {ps : List Part} {g : Part → Bool} {k : Nat} {q : Part} (h : ps[k]? = some q) (hg : g q = true) : ps.any g = true := List.any_eq_true.2 ⟨q, List.mem_of_getElem? h, hg⟩
set_option maxHeartbeats 2000000 in
theorem idxW_any (ps : List Part) (v : Value) (w : World) (hp : Pin (fun _ => False) w v ps) :
    Calls Tryd.prog 61 #[v, .func (.func 53) #[] #[]] w fun e w' => (∃ r : Int, e = .returned (.int .i64 r) ∧ decide (0 ≤ r) = ps.any wkP) ∧ Below w.heap.size w w' := by
  have hp' := hp
  obtain ⟨p, cap, rfl, hl, hcell⟩ := hp'
  go_enter Tryd.func61, Tryd.ntmps61
  go_wp2_with fail
  go_loopw [8] (fun i wr => ∃ k : Nat, k ≤ ps.length ∧ i = .int .i64 k ∧ (∀ j, j < k → ∀ q, ps[j]? = some q → wkP q = false) ∧ Below w.heap.size w wr) (fun i _ => ps.length - (intOf i).toNat)
  case atStart => exact ⟨0, by omega, rfl, fun j hj => by omega, Below.refl _ _⟩
  case round =>
    obtain ⟨k, hk, rfl, hno, hb⟩ := hrel
    by_cases hkl : k < ps.length
    · obtain ⟨q, hqk⟩ : ∃ q, ps[k]? = some q := ⟨_, List.getElem?_eq_getElem hkl⟩
      have hpr := hp.below hb
      obtain ⟨p', cap', hv', _, hcell'⟩ := hpr
      obtain ⟨b, o, rfl, _, c0, c1, c2, c3⟩ := hcell' k q hqk
      cases hv'
      go_wp2_with fail
      refine (isWeek1_any q wr).mono ?_
      rintro e w' ⟨rfl, hb'⟩
      have hb2 : Below w.heap.size w w' := hb.trans (hb'.mono hb.size)
      cases hin : wkP q
      · go_wp2_with fail
        refine ⟨⟨k + 1, by omega, by go_num, fun j hj q' hq' => ?_, hb2⟩, by simp [intOf]; omega⟩
        by_cases hjk : j < k
        · exact hno j hjk q' hq'
        · obtain rfl : j = k := by omega
          rw [hqk] at hq'; cases hq'; exact hin
      · go_wp2_with fail
        go_ret
        refine ⟨⟨k, rfl, ?_⟩, hb2⟩
        rw [any_at hqk hin]; simp
    · obtain rfl : k = ps.length := by omega
      go_wp2_with fail
      go_ret
      exact ⟨⟨-1, rfl, by rw [any_upto hno (Nat.le_refl _)]; rfl⟩, hb⟩
set_option maxHeartbeats 1000000 in
theorem contW_any (ps : List Part) (v : Value) (w : World) (hp : Pin (fun _ => False) w v ps) :
    Calls Tryd.prog 38 #[v, .func (.func 53) #[] #[]] w fun e w' => e = .returned (.bool (ps.any wkP)) ∧ Below w.heap.size w w' := by
  go_enter Tryd.func38, Tryd.ntmps38
  go_wp2_with fail
  refine (idxW_any ps v w hp).mono ?_
  rintro e w' ⟨⟨r, rfl, hr⟩, hb⟩
  go_wp2_with fail
  go_ret
  exact ⟨rfl, hb⟩
set_option maxHeartbeats 2000000 in
theorem isList_any (ps : List Part) (lo hi : Int) (v : Value) (w : World) (hp : Pin (fun _ => False) w v ps) :
    Calls Tryd.prog 31 #[v, .agg #[.int .i64 lo, .int .i64 hi]] w fun e w' => e = .returned (.bool (isLB ps lo hi)) ∧ Below w.heap.size w w' := by
  have hp' := hp
  obtain ⟨p, cap, rfl, hl, hcell⟩ := hp'
  by_cases h12 : ps.length ≤ 12
  · have hI : Hid (isLB ps lo hi = !(ps.any (badP ps.length lo hi))) := by show _ = _; unfold isLB; rw [decide_eq_true h12]; rfl
    have hB0 : Below w.heap.size w (w.alloc (.cells #[.int .i64 lo, .int .i64 hi] 74)) := (Below.refl _ _).alloc (Nat.le_refl _) _
    have z0 : (w.alloc (.cells #[.int .i64 lo, .int .i64 hi] 74)).cell? ⟨w.heap.size, 0, none⟩ = some (.int .i64 lo) := cell_at rfl rfl
    have z1 : (w.alloc (.cells #[.int .i64 lo, .int .i64 hi] 74)).cell? ⟨w.heap.size, 1, none⟩ = some (.int .i64 hi) := cell_at rfl rfl
    go_enter Tryd.func31, Tryd.ntmps31
    go_wp2_with fail
    go_loopw [12] (fun i wr => ∃ k : Nat, k ≤ ps.length ∧ i = .int .i64 k ∧ (∀ j, j < k → ∀ q, ps[j]? = some q → badP ps.length lo hi q = false) ∧ Below (w.heap.size + 1) (w.alloc (.cells #[.int .i64 lo, .int .i64 hi] 74)) wr) (fun i _ => ps.length - (intOf i).toNat)
    case atStart => exact ⟨0, by omega, rfl, fun j hj => by omega, Below.refl _ _⟩
    case round =>
      obtain ⟨k, hk, rfl, hno, hb⟩ := hrel
      have hbw : Below w.heap.size w wr := hB0.trans (hb.mono (by omega))
      have y0 : wr.cell? ⟨w.heap.size, 0, none⟩ = some (.int .i64 lo) := (hb.cell (p := ⟨w.heap.size, 0, none⟩) (by simp)).trans z0
      have y1 : wr.cell? ⟨w.heap.size, 1, none⟩ = some (.int .i64 hi) := (hb.cell (p := ⟨w.heap.size, 1, none⟩) (by simp)).trans z1
      have wl : w.heap.size < wr.heap.size := cell_lt y0
      by_cases hkl : k < ps.length
      · obtain ⟨q, hqk⟩ : ∃ q, ps[k]? = some q := ⟨_, List.getElem?_eq_getElem hkl⟩
        have hpr := hp.below hbw
        obtain ⟨p', cap', hv', _, hcell'⟩ := hpr
        obtain ⟨b, o, rfl, _, c0, c1, c2, c3⟩ := hcell' k q hqk
        cases hv'
        clear z0 z1
        go_wp2_with fail
        refine (fits_any q lo hi _).mono ?_
        rintro e w' ⟨rfl, hb'⟩
        have hz := hb'.size
        have hb2 : Below (w.heap.size + 1) (w.alloc (.cells #[.int .i64 lo, .int .i64 hi] 74)) w' := (hb.alloc (by omega) _).trans (hb'.mono (by simp; omega))
        have hb3 : Below w.heap.size w w' := hB0.trans (hb2.mono (by omega))
        have x0 : w'.cell? ⟨wr.heap.size, 0, none⟩ = some (.bool q.1) := (hb'.cell (p := ⟨wr.heap.size, 0, none⟩) (by simp)).trans (cell_at rfl rfl)
        cases hfit : fitsB q lo hi
        · have hbad : Hid (badP ps.length lo hi q = true) := by show _ = _; unfold badP; rw [hfit]; rfl
          go_wp2_with fail
          go_ret
          exact ⟨ret_bool (by rw [hI.out, any_at hqk hbad.out]; rfl), hb3⟩
        · cases hany : q.1
          · have hbad : Hid (badP ps.length lo hi q = false) := by show _ = _; unfold badP; rw [hfit, hany]; rfl
            rw [hany] at x0
            go_wp2_with fail
            refine ⟨⟨k + 1, by omega, by go_num, fun j hj q' hq' => ?_, hb2⟩, by simp [intOf]; omega⟩
            by_cases hjk : j < k
            · exact hno j hjk q' hq'
            · obtain rfl : j = k := by omega
              rw [hqk] at hq'; cases hq'; exact hbad.out
          · rw [hany] at x0
            by_cases h1 : 1 < ps.length
            · have hbad : Hid (badP ps.length lo hi q = true) := by show _ = _; unfold badP; rw [hfit, hany, decide_eq_true h1]; rfl
              go_wp2_with fail
              go_ret
              exact ⟨ret_bool (by rw [hI.out, any_at hqk hbad.out]; rfl), hb3⟩
            · have hbad : Hid (badP ps.length lo hi q = false) := by show _ = _; unfold badP; rw [hfit, hany, decide_eq_false h1]; rfl
              have hle1 : ps.length ≤ 1 := by omega
              clear h1
              go_wp2_with fail
              refine ⟨⟨k + 1, by omega, by go_num, fun j hj q' hq' => ?_, hb2⟩, by simp [intOf]; omega⟩
              by_cases hjk : j < k
              · exact hno j hjk q' hq'
              · obtain rfl : j = k := by omega
                rw [hqk] at hq'; cases hq'; exact hbad.out
      · obtain rfl : k = ps.length := by omega
        go_wp2_with fail
        go_ret
        exact ⟨ret_bool (by rw [hI.out, any_upto hno (Nat.le_refl _)]; rfl), hbw⟩
  · have hI : Hid (isLB ps lo hi = false) := by show _ = _; unfold isLB; rw [decide_eq_false h12]; rfl
    have hg : 12 < ps.length := by omega
    clear h12
    go_enter Tryd.func31, Tryd.ntmps31
    go_wp2_with fail
    go_ret
    exact ⟨ret_bool hI.out.symm, (Below.refl _ _).alloc (Nat.le_refl _) _⟩
set_option maxHeartbeats 1000000 in
theorem isWeek_any (ps : List Part) (v : Value) (w : World) (hp : Pin (fun _ => False) w v ps) :
    Calls Tryd.prog 32 #[v] w fun e w' => e = .returned (.bool (isWB ps)) ∧ Below w.heap.size w w' := by
  cases hL : isLB ps 0 6
  · have hI : Hid (isWB ps = false) := by show _ = _; unfold isWB; rw [hL]; rfl
    go_enter Tryd.func32, Tryd.ntmps32
    go_wp2_with fail
    refine (isList_any ps 0 6 v w hp).mono ?_
    rintro e w' ⟨rfl, hb⟩
    go_wp2_with fail
    go_ret
    exact ⟨ret_bool hI.out.symm, hb⟩
  · have hI : Hid (isWB ps = !(ps.any wkP)) := by show _ = _; unfold isWB; rw [hL]; rfl
    go_enter Tryd.func32, Tryd.ntmps32
    go_wp2_with fail
    refine (isList_any ps 0 6 v w hp).mono ?_
    rintro e w' ⟨rfl, hb⟩
    go_wp2_with fail
    refine (contW_any ps v w' (hp.below hb)).mono ?_
    rintro e w2 ⟨rfl, hb2⟩
    go_wp2_with fail
    go_ret
    exact ⟨ret_bool hI.out.symm, hb.trans (hb2.mono hb.size)⟩
end Go.Proofs.YteaaknbininehabDoor
