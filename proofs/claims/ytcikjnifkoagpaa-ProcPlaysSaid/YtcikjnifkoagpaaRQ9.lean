/- The reference's answers beside the code's, plain: its row is process 1 and the code's processes. -/
import Derived.Test.YtcikjnifkoagpaaRQ6
import Derived.Test.YtcikjnifkoagpaaLW
namespace Go.Proofs.Ytcikjnifkoagpaa
open Go.RowKit Go.Shelf
theorem lk_one (l : Ps) (k : Int) : lk (one :: l) k = if k = 1 then some one else lk l k := by
  unfold lk
  rw [List.find?_cons]
  by_cases h : k = 1
  · rw [if_pos h, h]; rfl
  · rw [if_neg h]
    have : decide (one.pid = k) = false := decide_eq_false (fun e => h (show k = 1 from e.symm))
    rw [this]
theorem Wf.no1 {room last : Int} {l : Ps} (h : Wf room last l) : lk l 1 = none := lk_none.2 (fun p hp e => by have := (h.rng p hp).1; omega)
theorem Wf.liv1 {room last : Int} {l : Ps} (h : Wf room last l) : livP l 1 = false := by unfold livP; rw [h.no1]; rfl
theorem rep_set {l : Ps} (hs : Srt l) {j : Nat} {p p' : Pr} (h : l[j]? = some p) (e : p'.pid = p.pid) : rep l p' = l.set j p' := by
  obtain ⟨hj, hx⟩ := List.getElem?_eq_some_iff.1 h
  have hl : l = l.take j ++ p :: l.drop (j + 1) := by rw [← hx, List.getElem_cons_drop, List.take_append_drop]
  rw [hl] at hs
  have h1 := rep_at (a := l.take j) (b := l.drop (j + 1)) (x := p) (x' := p') hs e
  rw [← hl] at h1
  rw [h1, List.set_eq_take_append_cons_drop, if_pos hj]
theorem ix_one {l : Ps} {k : Int} {p : Pr} (hk : k ≠ 1) (h : lk l k = some p) : ∃ j, l[j]? = some p ∧ ixP (one :: l) k = ((j + 1 : Nat) : Int) := by
  rcases ixP_lk (one :: l) k with ⟨_, e⟩ | ⟨i, q, hq, e1, e2⟩
  · rw [lk_one, if_neg hk, h] at e; cases e
  · rw [lk_one, if_neg hk, h] at e2
    cases e2
    cases i with
    | zero =>
      simp at hq
      have := lk_pid h
      rw [← hq] at this
      exact absurd this.symm hk
    | succ j => exact ⟨j, by simpa using hq, e1⟩
theorem kill_agree {room last : Int} {l : Ps} (hw : Wf room last l) (k s : Int) : rklE (one :: l) k s = klE l k s ∧ rklL (one :: l) k s = one :: klL l k s := by
  have off : rklE (one :: l) k s = 80 → klP l k s = none → rklE (one :: l) k s = klE l k s ∧ rklL (one :: l) k s = one :: klL l k s := fun e1 e2 => by
    refine ⟨by rw [e1]; unfold klE; rw [e2], ?_⟩
    unfold rklL klL
    rw [e1, e2]
    rfl
  by_cases hk : k = 1
  · refine off (by unfold rklE; rw [if_neg (fun q => q.2.1 hk)]) ?_
    unfold klP
    rw [hk, hw.liv1]
    rfl
  · cases e : lk l k with
    | none =>
      refine off (by unfold rklE; rw [lk_one, if_neg hk, e, if_neg (fun q => by cases q.1.1)]) ?_
      unfold klP livP
      rw [e]
      rfl
    | some p =>
      cases hz : p.zom with
      | true =>
        refine off (by unfold rklE; rw [lk_one, if_neg hk, e, if_neg (fun q => by have := q.1.2; simp only [Option.getD_some] at this; rw [hz] at this; cases this)]) ?_
        unfold klP livP
        rw [e]
        simp [hz]
      | false =>
        have hL : livP l k = true := by unfold livP; rw [e]; simp [hz]
        obtain ⟨j, hj, hix⟩ := ix_one hk e
        by_cases hs : s = 15 ∨ s = 9
        · have hE : rklE (one :: l) k s = 0 := by unfold rklE; rw [lk_one, if_neg hk, e, if_pos ⟨⟨rfl, hz⟩, hk, hs⟩]
          have hP : klP l k s = some (klPr s p) := by
            unfold klP klPr
            rw [if_pos hL, e]
            rcases hs with rfl | rfl <;> simp
          refine ⟨by rw [hE]; unfold klE; rw [hP], ?_⟩
          unfold rklL klL
          rw [if_pos hE, hP, hix, lk_one, if_neg hk, e]
          simp only [Int.toNat_natCast, Option.getD_some, List.set_cons_succ]
          rw [rep_set hw.srt hj (show (klPr s p).pid = p.pid from rfl)]
        · refine off (by unfold rklE; rw [if_neg (fun q => hs q.2.2)]) ?_
          unfold klP
          rw [if_pos hL, if_neg (fun q => hs (.inl q)), if_neg (fun q => hs (.inr q))]
theorem exit_agree {room last : Int} {l : Ps} (hw : Wf room last l) (k s : Int) : rexE (one :: l) k = exE l k ∧ rexL (one :: l) k s = one :: exL l k s := by
  have off : rexE (one :: l) k = 80 → livP l k = false → rexE (one :: l) k = exE l k ∧ rexL (one :: l) k s = one :: exL l k s := fun e1 e2 => by
    unfold rexL exL exE
    rw [e1, e2]
    exact ⟨rfl, rfl⟩
  by_cases hk : k = 1
  · exact off (by unfold rexE; rw [if_neg (fun q => q.2 hk)]) (by rw [hk]; exact hw.liv1)
  · cases e : lk l k with
    | none => exact off (by unfold rexE; rw [lk_one, if_neg hk, e, if_neg (fun q => by cases q.1.1)]) (by unfold livP; rw [e]; rfl)
    | some p =>
      cases hz : p.zom with
      | true => exact off (by unfold rexE; rw [lk_one, if_neg hk, e, if_neg (fun q => by have := q.1.2; simp only [Option.getD_some] at this; rw [hz] at this; cases this)]) (by unfold livP; rw [e]; simp [hz])
      | false =>
        have hL : livP l k = true := by unfold livP; rw [e]; simp [hz]
        obtain ⟨j, hj, hix⟩ := ix_one hk e
        have hE : rexE (one :: l) k = 0 := by unfold rexE; rw [lk_one, if_neg hk, e, if_pos ⟨⟨rfl, hz⟩, hk⟩]
        refine ⟨by rw [hE]; unfold exE; rw [if_pos hL], ?_⟩
        unfold rexL exL
        rw [if_pos hE, if_pos hL, hix, lk_one, if_neg hk, e]
        simp only [Int.toNat_natCast, Option.getD_some, List.set_cons_succ, List.map_cons]
        rw [rep_set hw.srt hj (p' := { p with zom := true, st := wiP s }) rfl]
        have : orph k one = one := by unfold orph; rw [if_neg]; intro q; have h1 := (hw.rng p (List.mem_of_getElem? hj)).1; rw [lk_pid e] at h1; rw [← q] at h1; revert h1; decide
        rw [this]
theorem lv_one (l : Ps) (k : Int) : decide (lvP (one :: l) k < 0) = !(mayP l k) := by
  have hm : mayP l k = ((decide (k = 1) || (lk l k).isSome) && !(getP l k).zom) := rfl
  rcases lv_lk (one :: l) k with ⟨e1, e2⟩ | ⟨i, p, _, e1, e2, hz⟩
  · rw [e1]
    have : mayP l k = false := by
      rw [lk_one] at e2
      by_cases hk : k = 1
      · rw [if_pos hk] at e2
        rcases e2 with q | ⟨p, q, hz⟩
        · cases q
        · cases q; cases hz
      · rw [if_neg hk] at e2
        rw [hm]
        unfold getP
        rw [if_neg hk, decide_eq_false hk]
        rcases e2 with q | ⟨p, q, hz⟩
        · cases h : lk l k with
          | none => rfl
          | some p => rw [h] at q; cases q
        · rw [q]; simp [hz]
    rw [this]
    decide
  · rw [e1]
    have : mayP l k = true := by
      rw [lk_one] at e2
      rw [hm]
      unfold getP
      by_cases hk : k = 1
      · rw [if_pos hk, decide_eq_true hk]; rfl
      · rw [if_neg hk] at e2 ⊢
        rw [e2]
        simp [hz]
    rw [this]
    simp
theorem spawn_agree (room last : Int) (l : Ps) (k : Int) (g c : ByteArray) : rspP room last (one :: l) k g c = { spP room last l k g c with l := one :: (spP room last l k g c).l } := by
  have hlv := lv_one l k
  unfold rspP spP
  cases hm : mayP l k with
  | false =>
    rw [hm] at hlv
    have : lvP (one :: l) k < 0 := by simpa using hlv
    rw [if_pos this]
    rfl
  | true =>
    rw [hm] at hlv
    have : ¬ lvP (one :: l) k < 0 := by simpa using hlv
    rw [if_neg this, if_pos rfl]
    have hlen : (((one :: l).length : Nat) : Int) - 1 = (l.length : Int) := by simp
    rw [hlen]
    by_cases hr : room ≤ (l.length : Int)
    · rw [if_pos hr, if_pos hr]
    · rw [if_neg hr, if_neg hr]; rfl
theorem fork_agree {room last : Int} {l : Ps} (hw : Wf room last l) (k : Int) : rfkP room last (one :: l) k = { fkP room last l k with l := one :: (fkP room last l k).l } := by
  unfold rfkP fkP
  rw [lk_one]
  by_cases hk : k = 1
  · rw [if_pos hk, if_neg (fun q => by rw [hk, hw.liv1] at q; cases q.1)]
    simp only
    rw [if_neg (fun q => q.2.1 hk)]
  · rw [if_neg hk]
    cases e : lk l k with
    | none =>
      rw [if_neg (fun q => by have := q.1; unfold livP at this; rw [e] at this; cases this)]
    | some p =>
      simp only [Option.getD_some]
      have hL : livP l k = !p.zom := by unfold livP; rw [e]; rfl
      rw [hL]
      by_cases hc : p.zom = false ∧ p.kill = false
      · rw [if_pos ⟨hc.1, hk, hc.2⟩, if_pos ⟨by rw [hc.1]; rfl, hc.2⟩]
        exact spawn_agree room last l k p.grp p.cmd
      · rw [if_neg (fun q => hc ⟨q.1, q.2.2⟩), if_neg (fun q => hc ⟨by simpa using q.1, q.2⟩)]
theorem get_agree (l : Ps) (k : Int) : (lk (one :: l) k).getD zPr = getP l k ∧ (lk (one :: l) k).isSome = thereP l k := by
  rw [lk_one]
  unfold getP thereP
  by_cases hk : k = 1
  · rw [if_pos hk, if_pos hk, decide_eq_true hk]; exact ⟨rfl, rfl⟩
  · rw [if_neg hk, if_neg hk, decide_eq_false hk]; exact ⟨rfl, rfl⟩
end Go.Proofs.Ytcikjnifkoagpaa
