/- Plain mathematics: a line, as the reference reads it. -/
import Derived.Test.YtmoafagemdnifaaDoorLN5
namespace Go.Proofs.YtmoafagemdnifaaDoor.Lin
theorem trim_def (l : L) : trim l = trimL (trimR l) := rfl
/-- Trimmed from both ends, by places. -/
theorem trim_at {l : L} {i k : Nat} (hik : i ≤ k) (hk : k ≤ l.length) (h1 : ∀ (j : Nat) b, j < i → l[j]? = some b → bl b = true) (h2 : ∀ b, l[i]? = some b → i < k → bl b = false) (h3 : ∀ (j : Nat) b, k ≤ j → l[j]? = some b → bl b = true) (h4 : ∀ b, i < k → l[k - 1]? = some b → bl b = false) :
    trim l = (l.take k).drop i := by
  by_cases he : i = k
  · subst he
    have hall : ∀ (j : Nat) b, l[j]? = some b → bl b = true := fun j b hj => by
      rcases Nat.lt_or_ge j i with h | h
      · exact h1 j b h hj
      · exact h3 j b h hj
    have e1 : trimR l = l.take 0 := Lib.trimRightS_take l [32, 9] 0 (Nat.zero_le _) (fun j b _ hj => hall j b hj) (fun b h => absurd h (Nat.lt_irrefl _))
    rw [trim_def, e1, List.drop_of_length_le (by rw [List.length_take]; omega)]
    rfl
  · have e1 : trimR l = l.take k := Lib.trimRightS_take l [32, 9] k hk h3 (fun b _ hb => h4 b (by omega) hb)
    rw [trim_def, e1]
    refine Lib.trimLeftS_drop (l.take k) [32, 9] i (by rw [List.length_take]; omega) (fun j b hj hb => ?_) (fun b hb => ?_)
    · rw [List.getElem?_take_of_lt (by omega)] at hb
      exact h1 j b hj hb
    · rw [List.getElem?_take_of_lt (by omega)] at hb
      exact h2 b hb (by omega)
theorem trimR_last {l : L} {a : L} {c : UInt8} (h : trimR l = a ++ [c]) : bl c = false := by
  unfold trimR Lib.trimRightS at h
  have h2 := congrArg List.reverse h
  rw [List.reverse_reverse, List.reverse_append] at h2
  have := List.head?_dropWhile_not ([32, 9].contains ·) l.reverse
  rw [h2] at this
  simpa [bl] using this
theorem trimL_suffix (l : L) : ∃ a, l = a ++ trimL l := by
  unfold trimL Lib.trimLeftS
  obtain ⟨a, ha⟩ := List.dropWhile_suffix (l := l) ([32, 9].contains ·)
  exact ⟨a, ha.symm⟩
theorem trim_last {l a : L} {c : UInt8} (h : trim l = a ++ [c]) : bl c = false := by
  obtain ⟨b, hb⟩ := trimL_suffix (trimR l)
  rw [← trim_def, h, ← List.append_assoc] at hb
  exact trimR_last hb
theorem trim_head {l r : L} {c : UInt8} (h : trim l = c :: r) : bl c = false := trimL_head h
theorem trimR_id {x : L} (h : ∀ a c, x = a ++ [c] → bl c = false) : trimR x = x := by
  rcases List.eq_nil_or_concat x with rfl | ⟨a, c, rfl⟩
  · rfl
  · have := trimR_keep a [] c (h a c (by simp))
    simpa [trimR, Lib.trimRightS] using this
theorem mem_tw (f : UInt8 → Bool) : ∀ (l : L) (c : UInt8), c ∈ l.takeWhile f → f c = true
  | [], _, h => by simp at h
  | d :: l, c, h => by
    rw [List.takeWhile_cons] at h
    split at h
    · rename_i hd
      rcases List.mem_cons.1 h with rfl | h
      · exact hd
      · exact mem_tw f l c h
    · simp at h
theorem dw_nil (f : UInt8 → Bool) : ∀ (l : L), (∀ c ∈ l, f c = true) → l.dropWhile f = []
  | [], _ => rfl
  | d :: l, h => by rw [List.dropWhile_cons, if_pos (h d (by simp))]; exact dw_nil f l (fun c hc => h c (by simp [hc]))
theorem lout_trim (p : L) : lout p = match trim p with | [] => true | c :: _ => c == 35 || c == 59 := by
  unfold lout
  obtain ⟨a, ha⟩ := trimL_suffix p
  have hab : ∀ c ∈ a, bl c = true := by
    have : a = p.takeWhile ([32, 9].contains ·) := by
      have h2 := List.takeWhile_append_dropWhile (p := ([32, 9].contains ·)) (l := p)
      have h3 : a ++ trimL p = p.takeWhile ([32, 9].contains ·) ++ trimL p := by rw [← ha]; exact h2.symm
      exact List.append_cancel_right h3
    intro c hc
    rw [this] at hc
    exact mem_tw _ _ c hc
  cases hp : trimL p with
  | nil =>
    have : trim p = [] := by
      rw [trim_def]
      have e : trimR p = [] := by
        rw [ha, hp, List.append_nil]
        unfold trimR Lib.trimRightS
        have : a.reverse.dropWhile ([32, 9].contains ·) = [] := by
          refine dw_nil _ _ fun c hc => ?_
          exact hab c (by simpa using hc)
        rw [this]; rfl
      rw [e]; rfl
    rw [this]
  | cons c r =>
    have hc : bl c = false := trimL_head hp
    have : trim p = c :: trimR r := by
      rw [trim_def, ha, hp, trimR_keep a r c hc, trimL_blanks a _ hab]
      exact trimL_word _ _ hc
    rw [this]
/-- Is it a section, by its ends? -/
def brk (t : L) : Bool := decide (2 ≤ t.length) && t.head? == some 91 && t.getLast? == some 93
theorem secN_brk {t : L} (h : brk t = true) : secN t = if made sc ((t.drop 1).take (t.length - 2)) then some ((t.drop 1).take (t.length - 2)) else none := by
  unfold brk at h
  simp only [Bool.and_eq_true, decide_eq_true_eq, beq_iff_eq] at h
  obtain ⟨⟨h1, h2⟩, h3⟩ := h
  cases t with
  | nil => simp at h1
  | cons c r =>
    simp only [List.head?_cons, Option.some.injEq] at h2
    subst h2
    have hr : r ≠ [] := by rintro rfl; simp at h1
    have hl : r.getLast? = some 93 := by rw [List.getLast?_cons_of_ne_nil hr] at h3; exact h3
    obtain ⟨a, ha⟩ : ∃ a, r = a ++ [93] := by
      rw [List.getLast?_eq_some_iff] at hl
      obtain ⟨a, ha⟩ := hl
      exact ⟨a, ha⟩
    have e1 : Lib.hasPrefix (91 :: r) [91] = true := by simp [Lib.hasPrefix]
    have e2 : Lib.trimPrefix (91 :: r) [91] = r := by unfold Lib.trimPrefix; rw [if_pos e1]; rfl
    have e3 : Lib.hasSuffix r [93] = true := by
      unfold Lib.hasSuffix
      rw [List.isSuffixOf_iff_suffix]
      exact ⟨a, ha.symm⟩
    have e4 : Lib.trimSuffix r [93] = r.take (r.length - 1) := by unfold Lib.trimSuffix; rw [if_pos e3]; rfl
    unfold secN
    rw [e1, e2, e3, e4]
    simp only [List.drop_succ_cons, List.drop_zero, List.length_cons, Bool.true_and]
    rw [show r.length + 1 - 2 = r.length - 1 by omega]
theorem secN_no {t : L} (h : brk t = false) : secN t = none := by
  unfold secN
  rw [if_neg]
  intro hc
  simp only [Bool.and_eq_true] at hc
  obtain ⟨⟨h1, h2⟩, _⟩ := hc
  cases t with
  | nil => simp [Lib.hasPrefix] at h1
  | cons c r =>
    have hc1 : c = 91 := by simp [Lib.hasPrefix] at h1; exact h1.symm
    subst hc1
    have e2 : Lib.trimPrefix (91 :: r) [91] = r := by unfold Lib.trimPrefix; rw [if_pos h1]; rfl
    rw [e2] at h2
    unfold Lib.hasSuffix at h2
    rw [List.isSuffixOf_iff_suffix] at h2
    obtain ⟨a, rfl⟩ := h2
    unfold brk at h
    simp [List.getLast?_cons] at h
/-- The reference's line: where a section's ends stand, or no '=' does, or at the first one. -/
theorem prs_brk {s : L} (h : brk (trim s) = true) : prs s = if made sc (((trim s).drop 1).take ((trim s).length - 2)) then some (1, ((trim s).drop 1).take ((trim s).length - 2), []) else none := by
  cases hm : made sc (((trim s).drop 1).take ((trim s).length - 2))
  · have hsn := secN_brk h
    rw [hm] at hsn
    have hsn' : secN (trim s) = none := hsn
    unfold prs
    rw [hsn']
    simp only
    have hbad : ((Lib.cut (trim s) [61]).2.2 && made al (trimR (Lib.cut (trim s) [61]).1)) = false := by
      unfold brk at h
      simp only [Bool.and_eq_true, decide_eq_true_eq, beq_iff_eq] at h
      obtain ⟨⟨h1, h2⟩, _⟩ := h
      rcases split_cases (trim s) 61 with hno | ⟨a, b, hab, hno⟩
      · rw [cut_none hno]; rfl
      · rw [hab, cut_split hno]
        cases a with
        | nil => rw [hab] at h2; simp at h2
        | cons c r =>
          rw [hab] at h2
          simp only [List.cons_append, List.head?_cons, Option.some.injEq] at h2
          subst h2
          have : (91 : UInt8) ∈ trimR (91 :: r) := by
            have := trimR_keep [] r 91 (by decide)
            rw [List.nil_append] at this
            rw [this]; simp
          show made al (trimR (91 :: r)) = false
          unfold made
          have h5 : (trimR (91 :: r)).all al = false := by
            rw [← Bool.not_eq_true, List.all_eq_true]
            intro hh
            exact absurd (hh _ this) (by decide)
          rw [h5]; rfl
    rw [hbad]; rfl
  · have hsn := secN_brk h
    rw [hm, if_pos rfl] at hsn
    unfold prs
    rw [hsn]; rfl
theorem prs_no {s : L} (h : brk (trim s) = false) (hno : ∀ x ∈ trim s, x ≠ 61) : prs s = none := by
  unfold prs
  rw [secN_no h]
  simp only [cut_none hno]
  rfl
theorem prs_eq {s a b : L} (h : brk (trim s) = false) (hab : trim s = a ++ 61 :: b) (hno : ∀ x ∈ a, x ≠ 61) : prs s = if made al (trim a) then some (2, trim a, trim b) else none := by
  have ea : trim a = trimR a := by
    rw [trim_def]
    cases a with
    | nil => rfl
    | cons c r =>
      have hc : bl c = false := trim_head (by rw [hab]; rfl)
      have := trimR_keep [] r c hc
      rw [List.nil_append] at this
      rw [this]
      exact trimL_word _ _ hc
  have eb : trim b = trimL b := by
    rw [trim_def, trimR_id]
    intro x c hx
    exact trim_last (l := s) (a := a ++ 61 :: x) (c := c) (by rw [hab, hx]; simp)
  unfold prs
  rw [secN_no h, hab]
  simp only [cut_split hno]
  rw [ea, eb, Bool.true_and]
end Go.Proofs.YtmoafagemdnifaaDoor.Lin
