/- Plain mathematics of reading: what is read can be printed. -/
import Derived.Test.YtmoafagemdnifaaDoorFP2
namespace Go.Proofs.YtmoafagemdnifaaDoor
open Lin
theorem pieces_no : ∀ (l : L) (p : L), p ∈ pieces l → ∀ c ∈ p, c ≠ 10
  | [], p, h, c, hc => by simp [pieces] at h; subst h; simp at hc
  | d :: r, p, h, c, hc => by
    unfold pieces at h
    split at h
    · rcases List.mem_cons.1 h with rfl | h
      · simp at hc
      · exact pieces_no r p h c hc
    · rename_i hd
      split at h
      · rename_i q qs hq
        rcases List.mem_cons.1 h with rfl | h
        · rcases List.mem_cons.1 hc with rfl | hc
          · exact hd
          · exact pieces_no r q (by rw [hq]; simp) c hc
        · exact pieces_no r p (by rw [hq]; simp [h]) c hc
      · simp at h; subst h; simp at hc; rw [hc]; exact hd
theorem trimS_mem {p : L} {c : UInt8} (h : c ∈ Lib.trimSuffix p [92]) : c ∈ p := by
  unfold Lib.trimSuffix at h
  split at h
  · exact List.mem_of_mem_take h
  · exact h
theorem whl_no : ∀ (r : List L) (n b : Nat) (x : L), (∀ p ∈ r, ∀ c ∈ p, c ≠ 10) → (∀ c ∈ x, c ≠ 10) → ∀ q ∈ whl n b x r, ∀ c ∈ q.2, c ≠ 10
  | [], n, b, x, _, hx, q, hq, c, hc => by
    unfold whl at hq
    split at hq
    · simp at hq
    · simp at hq; subst hq; exact hx c hc
  | p :: r, n, b, x, hr, hx, q, hq, c, hc => by
    unfold whl at hq
    split at hq
    · exact whl_no r _ _ _ (fun p hp => hr p (by simp [hp])) hx q hq c hc
    · split at hq
      · refine whl_no r _ _ _ (fun p hp => hr p (by simp [hp])) (fun c hc => ?_) q hq c hc
        rcases List.mem_append.1 hc with hc | hc
        · rcases List.mem_append.1 hc with hc | hc
          · exact hx c hc
          · exact hr p (by simp) c (trimS_mem hc)
        · simp at hc; rw [hc]; decide
      · rcases List.mem_cons.1 hq with rfl | hq
        · rcases List.mem_append.1 hc with hc | hc
          · exact hx c hc
          · exact hr p (by simp) c hc
        · exact whl_no r _ _ _ (fun p hp => hr p (by simp [hp])) (by simp) q hq c hc
/-- A line that can be printed. -/
def GoodLn (y : Ln) : Prop := (y.1 = 1 → GoodN y.2.1) ∧ (y.1 ≠ 1 → GoodK y.2.1 ∧ GoodV y.2.2.1)
theorem trim_mem {l : L} {c : UInt8} (h : c ∈ trim l) : c ∈ l := by
  rw [trim_def] at h
  obtain ⟨a, ha⟩ := trimL_suffix (trimR l)
  have h1 : c ∈ trimR l := by rw [ha]; simp [h]
  unfold trimR Lib.trimRightS at h1
  rw [List.mem_reverse] at h1
  have := (List.dropWhile_suffix (l := l.reverse) ([32, 9].contains ·)).subset h1
  simpa using this
theorem prs_good {t : L} {p : Kv} (h : prs t = some p) (hl : t.length ≤ 400) (hn : ∀ c ∈ t, c ≠ 10) (n : Nat) : GoodLn (p.1, p.2.1, p.2.2, n) := by
  have htl := trim_len t
  cases hs : secN (trim t) with
  | some nm =>
    rw [prs_sec hs] at h
    cases h
    refine ⟨fun _ => ?_, fun h => absurd rfl h⟩
    cases hb : brk (trim t) with
    | false => rw [secN_no hb] at hs; cases hs
    | true =>
      rw [secN_brk hb] at hs
      split at hs
      · rename_i hm
        cases hs
        refine ⟨hm, ?_⟩
        unfold brk at hb
        simp only [Bool.and_eq_true, decide_eq_true_eq] at hb
        simp only [List.length_take, List.length_drop]
        omega
      · cases hs
  | none =>
    rw [prs_set hs] at h
    split at h
    · rename_i hc
      simp only [Bool.and_eq_true] at hc
      cases h
      refine ⟨fun h => absurd h (show ¬ (2 : Nat) = 1 by decide), fun _ => ⟨⟨hc.2, Nat.le_trans (trimR_len _) (Nat.le_trans (cut_le _ _).1 (by omega))⟩, ?_⟩⟩
      rcases split_cases (trim t) 61 with hno | ⟨a, b, hab, hno⟩
      · rw [cut_none hno] at hc; exact absurd hc.1 (show ¬ false = true by decide)
      · have hcut : Lib.cut (trim t) [61] = (a, b, true) := by rw [hab]; exact cut_split hno
        show GoodV (trimL (Lib.cut (trim t) [61]).2.1)
        rw [hcut]
        show GoodV (trimL b)
        obtain ⟨d, hd⟩ := trimL_suffix b
        refine ⟨?_, fun c hc => hn c (trim_mem ?_), fun c r e => trimL_head e, fun e c he => ?_⟩
        · have h9 := congrArg List.length hab
          have h8 := trimL_len b
          simp only [List.length_append, List.length_cons] at h9
          omega
        · rw [hab, hd]; simp [hc]
        · refine trim_last (l := t) (a := a ++ 61 :: d ++ e) (c := c) ?_
          rw [hab, hd, he]; simp
    · cases h
theorem lnsW_good : ∀ (r : List (Nat × L)) (l : List Ln), (∀ q ∈ r, ∀ c ∈ q.2, c ≠ 10) → lnsW r = .ok l → ∀ y ∈ l, GoodLn y
  | [], l, _, h, y, hy => by simp [lnsW] at h; subst h; simp at hy
  | (n, t) :: r, l, hn, h, y, hy => by
    unfold lnsW at h
    split at h
    · cases h
    · rename_i hlen
      split at h
      · cases h
      · rename_i p hp
        split at h
        · rename_i l' hl'
          cases h
          rcases List.mem_cons.1 hy with rfl | hy
          · exact prs_good hp (by omega) (hn (n, t) (by simp)) n
          · exact lnsW_good r l' (fun q hq => hn q (by simp [hq])) hl' y hy
        · cases h
theorem pf_good : ∀ (l : List Ln) (sec : ByteArray) (acc f : List St), (∀ y ∈ l, GoodLn y) → (sec ≠ ⟨#[]⟩ → GoodN sec.data.toList) → (∀ x ∈ acc, GoodN x.s.data.toList ∧ GoodK x.k.data.toList ∧ GoodV x.v.data.toList) → pf sec acc l = .ok f →
    ∀ x ∈ f, GoodN x.s.data.toList ∧ GoodK x.k.data.toList ∧ GoodV x.v.data.toList
  | [], sec, acc, f, _, _, ha, h, x, hx => by simp [pf] at h; subst h; exact ha x hx
  | y :: r, sec, acc, f, hl, hs, ha, h, x, hx => by
    have hy := hl y (by simp)
    unfold pf at h
    split at h
    · rename_i h1
      exact pf_good r _ acc f (fun z hz => hl z (by simp [hz])) (fun _ => hy.1 h1) ha h x hx
    · rename_i h1
      split at h
      · cases h
      · rename_i h2
        refine pf_good r sec _ f (fun z hz => hl z (by simp [hz])) hs (fun z hz => ?_) h x hx
        rcases List.mem_append.1 hz with hz | hz
        · exact ha z hz
        · simp at hz; subst hz
          exact ⟨hs h2, (hy.2 h1).1, (hy.2 h1).2⟩
theorem fil_good {s : L} {f : List St} (h : fil s = .ok f) : ∀ x ∈ f, GoodN x.s.data.toList ∧ GoodK x.k.data.toList ∧ GoodV x.v.data.toList := by
  unfold fil at h
  cases hl : lns s with
  | error e => rw [hl] at h; cases h
  | ok l =>
    rw [hl] at h
    unfold filL at h
    simp only at h
    have hlg : ∀ y ∈ l, GoodLn y := by
      unfold lns at hl
      split at hl
      · cases hl
      · exact lnsW_good _ l (whl_no _ _ _ _ (fun p hp => pieces_no s p hp) (by simp)) hl
    cases hp : pf ⟨#[]⟩ [] l with
    | error n => rw [hp] at h; cases h
    | ok a =>
      rw [hp] at h
      cases h
      exact pf_good l ⟨#[]⟩ [] f hlg (fun h => absurd rfl h) (by simp) hp
/-- All that FileBack asks. -/
theorem back_plain {s : L} {f : List St} (h : fil s = .ok f) (hv : ∀ x ∈ f, x.v.size + x.k.size < 400 ∧ ∀ a c, x.v.data.toList = a ++ [c] → c ≠ 92) (hl : (prt (groups f)).length ≤ 4000) :
    ∃ g, fil (prt (groups f)) = .ok g ∧ g.length = f.length ∧ prt (groups g) = prt (groups f) ∧ ∀ y, g.countP (sameT y) = f.countP (sameT y) := by
  have hgood := fil_good h
  have hmem : ∀ p ∈ groups f, ∀ x ∈ p.2, x ∈ f := fun p hp x hx => (groups_perm f).mem_iff.1 (by unfold flatG; exact List.mem_flatMap.2 ⟨p, hp, hx⟩)
  have hf := groups_fine f
  obtain ⟨g, h1, h2⟩ := fil_prt (f := f) (fun p hp => by
    refine ⟨?_, fun x hx => ?_⟩
    · obtain ⟨x, t, ht⟩ := List.exists_cons_of_ne_nil (hf.own p hp).1
      have hx : x ∈ p.2 := by rw [ht]; simp
      have := (hgood x (hmem p hp x hx)).1
      rwa [(hf.own p hp).2 x hx] at this
    · have hxf := hmem p hp x hx
      exact ⟨(hgood x hxf).2.1.1, (hgood x hxf).2.2, (hv x hxf).2, by have := (hv x hxf).1; omega⟩) hl
  exact ⟨g, h1, len_again h2, prt_again h2, count_again h2⟩
end Go.Proofs.YtmoafagemdnifaaDoor
