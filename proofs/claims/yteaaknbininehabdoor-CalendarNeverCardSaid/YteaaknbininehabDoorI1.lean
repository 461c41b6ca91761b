/- Contracts of package calendar's isIn. -/
import Derived.Test.YteaaknbininehabDoorI0
namespace Go.Proofs.YteaaknbininehabDoor
open Go.RowKit
set_option maxHeartbeats 1000000 in
theorem isIn1_any (q : Part) (n : Int) (bn : Nat) (w : World) (hq : okP q) (_ : 0 ≤ n) (_ : n ≤ 100000) (hc : w.cell? ⟨bn, 0, none⟩ = some (.int .i64 n)) :
    Calls Tryd.prog 39 #[aggP q, .pointer (some ⟨bn, 0, none⟩)] w fun e w' => e = .returned (.bool (Cal.inP q n)) ∧ Below w.heap.size w w' := by
  obtain ⟨a, f, t, s⟩ := q
  obtain ⟨f0, f1, t0, t1, s0, s1⟩ := hq
  simp only at f0 f1 t0 t1 s0 s1
  have hlt := cell_lt hc
  simp only at hlt
  dsimp only [aggP]
  cases a
  all_goals
    go_enter Tryd.func39, Tryd.ntmps39
    go_wp2
  all_goals go_ret
  all_goals refine ⟨ret_bool ?_, (Below.refl _ _).alloc (Nat.le_refl _) _⟩
  all_goals (unfold Cal.inP; rw [Bool.eq_iff_iff]; simp_all)
  all_goals (intros; omega)
theorem inL_upto {ps : List Part} {n : Int} {k : Nat} (h : ∀ j, j < k → ∀ q, ps[j]? = some q → Cal.inP q n = false) (hk : ps.length ≤ k) : Cal.inL ps n = false := by
  unfold Cal.inL
  rw [List.any_eq_false]
  intro q hq
  obtain ⟨j, hj⟩ := List.mem_iff_getElem?.1 hq
  have hl : j < ps.length := (List.getElem?_eq_some_iff.1 hj).1
  simp [h j (by omega) q hj]
set_option maxHeartbeats 2000000 in
theorem idxIn_any (ps : List Part) (n : Int) (v : Value) (bn : Nat) (w : World) (hp : Pin (fun _ => False) w v ps) (hq : okL ps) (h0 : 0 ≤ n) (h1 : n ≤ 100000) (hc : w.cell? ⟨bn, 0, none⟩ = some (.int .i64 n)) :
    Calls Tryd.prog 61 #[v, .func (.func 39) #[] #[.pointer (some ⟨bn, 0, none⟩)]] w fun e w' => (∃ r : Int, e = .returned (.int .i64 r) ∧ decide (0 ≤ r) = Cal.inL ps n) ∧ Below w.heap.size w w' := by
  have hlt := cell_lt hc
  simp only at hlt
  have hp' := hp
  obtain ⟨p, cap, rfl, hl, hcell⟩ := hp'
  go_enter Tryd.func61, Tryd.ntmps61
  go_wp2_with fail
  go_loopw [8] (fun i wr => ∃ k : Nat, k ≤ ps.length ∧ i = .int .i64 k ∧ (∀ j, j < k → ∀ q, ps[j]? = some q → Cal.inP q n = false) ∧ Below w.heap.size w wr) (fun i _ => ps.length - (intOf i).toNat)
  case atStart => exact ⟨0, by omega, rfl, fun j hj => by omega, Below.refl _ _⟩
  case round =>
    obtain ⟨k, hk, rfl, hno, hb⟩ := hrel
    by_cases hkl : k < ps.length
    · obtain ⟨q, hqk⟩ : ∃ q, ps[k]? = some q := ⟨_, List.getElem?_eq_getElem hkl⟩
      have hpr := hp.below hb
      obtain ⟨p', cap', hv', _, hcell'⟩ := hpr
      obtain ⟨b, o, rfl, _, c0, c1, c2, c3⟩ := hcell' k q hqk
      cases hv'
      have hc' : wr.cell? ⟨bn, 0, none⟩ = some (.int .i64 n) := (hb.cell (p := ⟨bn, 0, none⟩) hlt).trans hc
      go_wp2_with fail
      refine (isIn1_any q n bn wr (hq q (List.mem_of_getElem? hqk)) h0 h1 hc').mono ?_
      rintro e w' ⟨rfl, hb'⟩
      have hb2 : Below w.heap.size w w' := hb.trans (hb'.mono hb.size)
      cases hin : Cal.inP q n
      · go_wp2_with fail
        refine ⟨⟨k + 1, by omega, by go_num, fun j hj q' hq' => ?_, hb2⟩, by simp [intOf]; omega⟩
        by_cases hjk : j < k
        · exact hno j hjk q' hq'
        · obtain rfl : j = k := by omega
          rw [hqk] at hq'; cases hq'; exact hin
      · go_wp2_with fail
        go_ret
        refine ⟨⟨k, rfl, ?_⟩, hb2⟩
        have : Cal.inL ps n = true := by
          unfold Cal.inL
          exact List.any_eq_true.2 ⟨q, List.mem_of_getElem? hqk, hin⟩
        rw [this]; simp
    · obtain rfl : k = ps.length := by omega
      go_wp2_with fail
      go_ret
      exact ⟨⟨-1, rfl, by rw [inL_upto hno (Nat.le_refl _)]; rfl⟩, hb⟩
set_option maxHeartbeats 1000000 in
theorem contIn_any (ps : List Part) (n : Int) (v : Value) (bn : Nat) (w : World) (hp : Pin (fun _ => False) w v ps) (hq : okL ps) (h0 : 0 ≤ n) (h1 : n ≤ 100000) (hc : w.cell? ⟨bn, 0, none⟩ = some (.int .i64 n)) :
    Calls Tryd.prog 38 #[v, .func (.func 39) #[] #[.pointer (some ⟨bn, 0, none⟩)]] w fun e w' => e = .returned (.bool (Cal.inL ps n)) ∧ Below w.heap.size w w' := by
  go_enter Tryd.func38, Tryd.ntmps38
  go_wp2_with fail
  refine (idxIn_any ps n v bn w hp hq h0 h1 hc).mono ?_
  rintro e w' ⟨⟨r, rfl, hr⟩, hb⟩
  go_wp2_with fail
  go_ret
  exact ⟨rfl, hb⟩
set_option maxHeartbeats 1000000 in
theorem isIn_any (ps : List Part) (n : Int) (v : Value) (w : World) (hp : Pin (fun _ => False) w v ps) (hq : okL ps) (h0 : 0 ≤ n) (h1 : n ≤ 100000) :
    Calls Tryd.prog 20 #[v, .int .i64 n] w fun e w' => e = .returned (.bool (Cal.inL ps n)) ∧ Below w.heap.size w w' := by
  go_enter Tryd.func20, Tryd.ntmps20
  go_wp2_with fail
  refine (contIn_any ps n v _ _ (hp.below ((Below.refl _ _).alloc (Nat.le_refl _) _)) hq h0 h1 (by simp)).mono ?_
  rintro e w' ⟨rfl, hb⟩
  go_wp2_with fail
  go_ret
  exact ⟨rfl, ((Below.refl _ w).alloc (Nat.le_refl _) _).trans (hb.mono (by simp))⟩
set_option maxHeartbeats 1000000 in
theorem onW_any (ps : List Part) (n : Int) (v : Value) (w : World) (hp : Pin (fun _ => False) w v ps) (hq : okL ps) :
    Calls Tryd.prog 22 #[v, .int .i64 n] w fun e w' => e = .returned (.bool (Cal.onW ps n)) ∧ Below w.heap.size w w' := by
  have hw := Civ.wd_bd n
  have hp' := hp
  obtain ⟨p, cap, rfl, hl, hcell⟩ := hp'
  cases ps with
  | nil =>
    go_enter Tryd.func22, Tryd.ntmps22
    go_wp2_with fail
    go_ret
    exact ⟨rfl, Below.refl _ _⟩
  | cons a r =>
    go_enter Tryd.func22, Tryd.ntmps22
    go_wp2_with (first
      | (go_at_call 43; refine (week_any n _).mono ?_; rintro e w' ⟨rfl, rfl⟩)
      | (go_at_call 20; refine (isIn_any (a :: r) (Civ.wd n) _ _ hp hq (by omega) (by omega)).mono ?_; rintro e w' ⟨rfl, hb⟩))
    go_ret
    exact ⟨rfl, hb⟩
end Go.Proofs.YteaaknbininehabDoor
