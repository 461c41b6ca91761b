/- Plain mathematics: words, by places. -/
import Derived.Test.YtmoafagemdnifaaDoorLN4
namespace Go.Proofs.YtmoafagemdnifaaDoor.Lin
theorem drop_at {l : L} {i : Nat} {c : UInt8} (h : l[i]? = some c) : l.drop i = c :: l.drop (i + 1) := by
  obtain ⟨h1, h2⟩ := List.getElem?_eq_some_iff.1 h
  rw [List.drop_eq_getElem_cons h1, h2]
theorem spl_blank {l : L} {i : Nat} {c : UInt8} (h : l[i]? = some c) (hc : bl c = true) : spl (l.drop i) = spl (l.drop (i + 1)) := by
  rw [spl_eq, spl_eq, drop_at h, trimL_blank _ _ hc]
theorem spl_end (l : L) : spl (l.drop l.length) = some [] := by
  rw [List.drop_length]; rfl
theorem spl_quote {l : L} {i : Nat} {c : UInt8} (h : l[i]? = some c) (hb : bl c = false) (hq : c = 34 ∨ c = 39) : spl (l.drop i) = (cutQ c (l.drop (i + 1))).bind fun p => if bat p.2 = 0 then (spl p.2).map (p.1 :: ·) else none := by
  rw [spl_eq, drop_at h, trimL_word _ _ hb, spl0_cons hb]
  simp only [cutW]
  rw [if_pos hq]
  cases cutQ c (l.drop (i + 1)) with
  | none => rfl
  | some p =>
    simp only [Option.bind_some]
    by_cases h0 : bat p.2 = 0
    · rw [if_pos h0, if_pos h0, Option.bind_some, spl_eq]
    · rw [if_neg h0, if_neg h0]; rfl
theorem bat_at {l : L} {m : Nat} (hm : m ≤ l.length) (h : ∀ c ∈ l.take m, bl c = false) (he : m = l.length ∨ ∃ c, l[m]? = some c ∧ bl c = true) : bat l = m := by
  have h1 := bat_word (l.take m) (l.drop m) h (by
    rcases he with rfl | ⟨c, hc, hb⟩
    · rw [List.drop_length]; rfl
    · rw [drop_at hc]; exact bat_blank _ _ hb)
  rwa [List.take_append_drop, List.length_take, Nat.min_eq_left hm] at h1
theorem spl_plain {l : L} {f i : Nat} {c : UInt8} (h : l[f]? = some c) (hb : bl c = false) (hq : ¬ (c = 34 ∨ c = 39)) (hfi : f ≤ i) (hi : i ≤ l.length) (hno : ∀ d ∈ (l.drop f).take (i - f), bl d = false) (he : i = l.length ∨ ∃ d, l[i]? = some d ∧ bl d = true) :
    spl (l.drop f) = (spl (l.drop i)).map ((l.drop f).take (i - f) :: ·) := by
  have hbat : bat (l.drop f) = i - f := by
    refine bat_at (by rw [List.length_drop]; omega) hno ?_
    rcases he with rfl | ⟨d, hd, hbd⟩
    · exact .inl (by rw [List.length_drop])
    · refine .inr ⟨d, ?_, hbd⟩
      rw [List.getElem?_drop, show f + (i - f) = i by omega]; exact hd
  have hdd : (l.drop f).drop (i - f) = l.drop i := by rw [List.drop_drop, show f + (i - f) = i by omega]
  rw [spl_eq]
  have e := drop_at h
  rw [e] at hbat hdd ⊢
  rw [trimL_word _ _ hb, spl0_cons hb]
  simp only [cutW]
  rw [if_neg hq, Option.bind_some, hbat, hdd, ← spl_eq]
theorem cutQ_step {l : L} {q : UInt8} {i : Nat} {c : UInt8} (h : l[i]? = some c) (h1 : c ≠ q) (h2 : c ≠ 92) : cutQ q (l.drop i) = (cutQ q (l.drop (i + 1))).map fun p => (c :: p.1, p.2) := by
  rw [drop_at h, cutQ_plain q c _ h1 h2]
theorem cutQ_stepE {l : L} {q : UInt8} {i : Nat} {d m : UInt8} (hq : q ≠ 92) (h : l[i]? = some 92) (hd : l[i + 1]? = some d) (hm : es1 d = some m) : cutQ q (l.drop i) = (cutQ q (l.drop (i + 1 + 1))).map fun p => (m :: p.1, p.2) := by
  rw [drop_at h, drop_at hd, cutQ_bs q d _ hq, hm]; rfl
theorem cutQ_stepN {l : L} {q : UInt8} {i : Nat} (hq : q ≠ 92) (h : l[i]? = some 92) (hd : l[i + 1]? = none ∨ ∃ d, l[i + 1]? = some d ∧ es1 d = none) : cutQ q (l.drop i) = none := by
  rw [drop_at h]
  rcases hd with hd | ⟨d, hd, he⟩
  · rw [List.drop_of_length_le (by rw [List.getElem?_eq_none_iff] at hd; exact hd)]; exact cutQ_bs0 q hq
  · rw [drop_at hd, cutQ_bs q d _ hq, he]; rfl
theorem cutQ_fin {l : L} {q : UInt8} {i : Nat} (h : l[i]? = some q) : cutQ q (l.drop i) = some ([], l.drop (i + 1)) := by rw [drop_at h, cutQ_end]
theorem cutQ_none (q : UInt8) (l : L) : cutQ q (l.drop l.length) = none := by rw [List.drop_length]; rfl
theorem bat_drop0 {l : L} {i : Nat} (h : i = l.length ∨ ∃ c, l[i]? = some c ∧ bl c = true) : bat (l.drop i) = 0 := by
  rcases h with rfl | ⟨c, hc, hb⟩
  · rw [List.drop_length]; rfl
  · rw [drop_at hc]; exact bat_blank _ _ hb
theorem bat_dropN {l : L} {i : Nat} {c : UInt8} (h : l[i]? = some c) (hb : bl c = false) : bat (l.drop i) ≠ 0 := by
  rw [drop_at h]
  have := bat_cons_pos (l.drop (i + 1)) hb
  omega
theorem es1_n : es1 110 = some 10 := rfl
theorem es1_q {d : UInt8} (h : d = 34 ∨ d = 39 ∨ d = 92) : es1 d = some d := by unfold es1; rw [if_pos h]
theorem es1_none {d : UInt8} (h1 : d ≠ 34) (h2 : d ≠ 39) (h3 : d ≠ 92) (h4 : d ≠ 110) : es1 d = none := by
  unfold es1
  rw [if_neg (by rintro (h | h | h); exact h1 h; exact h2 h; exact h3 h), if_neg h4]
end Go.Proofs.YtmoafagemdnifaaDoor.Lin
