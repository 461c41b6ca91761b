/- More plain mathematics of names: cutting at a byte, stems, endings. -/
import Derived.Test.YtedgnigogkmgkaaGreatDoorNM
namespace Go.Proofs.YtedgnigogkmgkaaGreatDoor.Nam
theorem occ1 (l : L) (c : UInt8) (k : Nat) : Lib.occAt l [c] k = (l[k]? == some c) := by
  unfold Lib.occAt
  have : l[k]? = (l.drop k)[0]? := by rw [List.getElem?_drop]; simp
  rw [this]
  cases l.drop k with
  | nil => rfl
  | cons a r =>
    show (c == a && [].isPrefixOf r) = (some a == some c)
    rw [Bool.eq_iff_iff]
    simp
    exact eq_comm
theorem index_at {l : L} {c : UInt8} {k : Nat} (h : Lib.NoOcc l [c] k) (hk : l[k]? = some c) : Lib.index l [c] = k := by
  have hlt : k < l.length := (List.getElem?_eq_some_iff.1 hk).1
  exact Lib.index_hit h (by omega) (by rw [occ1, hk]; simp)
theorem noOcc_next {l : L} {c x : UInt8} {k : Nat} (h : Lib.NoOcc l [c] k) (hk : l[k]? = some x) (hne : x ≠ c) : Lib.NoOcc l [c] (k + 1) :=
  h.succ (by rw [occ1, hk]; simpa using hne)
theorem index_no {l : L} {c : UInt8} (h : Lib.NoOcc l [c] l.length) : Lib.index l [c] = -1 := Lib.index_past (by simp) h (by simp)
theorem index_none' {l : L} {c : UInt8} (h : ∀ x ∈ l, x ≠ c) : Lib.index l [c] = -1 := by
  refine index_no fun j _ => ?_
  rw [occ1]
  cases hj : l[j]? with
  | none => rfl
  | some x => simpa using h x (List.mem_of_getElem? hj)
theorem index_split {a b : L} {c : UInt8} (h : ∀ x ∈ a, x ≠ c) : Lib.index (a ++ c :: b) [c] = a.length := by
  refine index_at (fun j hj => ?_) (by simp)
  rw [occ1, List.getElem?_append_left hj]
  cases hx : a[j]? with
  | none => rfl
  | some x => simpa using h x (List.mem_of_getElem? hx)
theorem cut_none {l : L} {c : UInt8} (h : ∀ x ∈ l, x ≠ c) : Lib.cut l [c] = (l, [], false) := by
  unfold Lib.cut
  rw [index_none' h, if_neg (by omega)]
theorem cut_split {a b : L} {c : UInt8} (h : ∀ x ∈ a, x ≠ c) : Lib.cut (a ++ c :: b) [c] = (a, b, true) := by
  unfold Lib.cut
  rw [index_split h, if_pos (by omega)]
  simp
theorem split_cases (l : L) (c : UInt8) : (∀ x ∈ l, x ≠ c) ∨ ∃ a b, l = a ++ c :: b ∧ ∀ x ∈ a, x ≠ c := by
  induction l with
  | nil => exact .inl (by simp)
  | cons d r ih =>
    by_cases hd : d = c
    · exact .inr ⟨[], r, by simp [hd], by simp⟩
    · rcases ih with h | ⟨a, b, rfl, h⟩
      · exact .inl (by intro x hx; rcases List.mem_cons.1 hx with rfl | hx; exact hd; exact h x hx)
      · exact .inr ⟨d :: a, b, rfl, by intro x hx; rcases List.mem_cons.1 hx with rfl | hx; exact hd; exact h x hx⟩
theorem sp_is : ∀ c : UInt8, sp c = (al c || c == 58 || c == 45 || c == 95 || c == 46 || c == 92) := by
  refine all8 _ ?_
  decide +kernel
theorem sp_at : sp 64 = false := by decide +kernel
/-- Whether a stem is one, byte by byte. -/
def stB (st : L) : Bool := !(st == []) && st.all (fun c => c == 64 || sp c) && decide (st.count 64 ≤ 1) && !(st.head? == some 64)
theorem all_or_of_not {l : L} (h : ∀ x ∈ l, x ≠ 64) : l.all (fun c => c == 64 || sp c) = l.all sp := by
  induction l with
  | nil => rfl
  | cons c r ih =>
    rw [List.all_cons, List.all_cons, ih (fun x hx => h x (by simp [hx]))]
    have : (c == 64) = false := by simpa using h c (by simp)
    rw [this, Bool.false_or]
theorem not_at_of_all {l : L} (h : l.all sp = true) : ∀ x ∈ l, x ≠ 64 := fun x hx e => by
  have := List.all_eq_true.1 h x hx
  rw [e, sp_at] at this
  cases this
theorem stm_is (st : L) (k : Nat) : (stm st k).isSome = stB st := by
  unfold stm stB spelt
  rcases split_cases st 64 with h | ⟨a, b, rfl, h⟩
  · rw [cut_none h, all_or_of_not h, List.count_eq_zero.2 (fun hm => h 64 hm rfl)]
    have hh : (st.head? == some 64) = false := by
      cases st with
      | nil => rfl
      | cons c r => simpa using h c (by simp)
    rw [hh]
    cases hst : (st == []) <;> cases ha : st.all sp <;> simp_all
  · rw [cut_split h]
    have hne : (a ++ 64 :: b == []) = false := by cases a <;> rfl
    rw [hne, List.all_append, List.all_cons, all_or_of_not h, List.count_append, List.count_eq_zero.2 (fun hm => h 64 hm rfl), List.count_cons_self]
    have hh : ((a ++ 64 :: b).head? == some 64) = (a == []) := by
      cases a with
      | nil => rfl
      | cons c r => simpa using h c (by simp)
    rw [hh]
    by_cases hb : ∀ x ∈ b, x ≠ 64
    · rw [all_or_of_not hb, List.count_eq_zero.2 (fun hm => hb 64 hm rfl)]
      cases hst : (a == []) <;> cases ha : a.all sp <;> cases hc : b.all sp <;> simp_all
    · have hb' : b.all sp = false := by
        cases hc : b.all sp with
        | false => rfl
        | true => exact absurd (not_at_of_all hc) hb
      have hcount : 1 ≤ b.count 64 := by
        rcases Nat.eq_zero_or_pos (b.count 64) with h0 | h0
        · exact absurd (fun x hx e => List.count_eq_zero.1 h0 (by rw [← e]; exact hx)) hb
        · exact h0
      have hd : decide (0 + (b.count 64 + 1) ≤ 1) = false := by simp; omega
      rw [hb', hd]
      simp
/-- The stem and the kind of a text: 1 on; 0 of none. -/
def pt (l : L) : L × Int := match fnd l 0 ends with | some p => (p.1, p.2 + 1) | none => ([], 0)
theorem fnd_step (l : L) (k : Nat) (e : L) (h : ends[k]? = some e) : fnd l k (ends.drop k) = if Lib.hasSuffix l e then some (l.take (l.length - e.length), k) else fnd l (k + 1) (ends.drop (k + 1)) := by
  obtain ⟨hk, he⟩ := List.getElem?_eq_some_iff.1 h
  rw [List.drop_eq_getElem_cons hk, he]
  rfl
theorem ends_len : ∀ (k : Nat) (e : L), ends[k]? = some e → 5 ≤ e.length ∧ e.length ≤ 8
  | 0, e, h => by cases h; decide
  | 1, e, h => by cases h; decide
  | 2, e, h => by cases h; decide
  | 3, e, h => by cases h; decide
  | 4, e, h => by cases h; decide
  | 5, e, h => by cases h; decide
  | n + 6, e, h => by simp [ends] at h
theorem endk_of {k : Nat} {e : L} (h : ends[k]? = some e) : endk k = e := by unfold endk; rw [List.getD_eq_getElem?_getD, h]; rfl
theorem fnd_lt' {l : L} {p : L × Nat} : ∀ (n k : Nat), k + n = 6 → fnd l k (ends.drop k) = some p → p.2 < 6 ∧ p.1 = l.take (l.length - (endk p.2).length) ∧ Lib.hasSuffix l (endk p.2) = true
  | 0, k, hk, h => by
    obtain rfl : k = 6 := by omega
    cases h
  | n + 1, k, hk, h => by
    obtain ⟨e, he⟩ : ∃ e, ends[k]? = some e := ⟨_, List.getElem?_eq_getElem (by simp [ends]; omega)⟩
    rw [fnd_step l k e he] at h
    by_cases hs : Lib.hasSuffix l e = true
    · rw [if_pos hs] at h
      cases h
      rw [endk_of he]
      exact ⟨by omega, rfl, hs⟩
    · rw [if_neg hs] at h
      exact fnd_lt' n (k + 1) (by omega) h
theorem fnd_lt {l : L} {p : L × Nat} (h : fnd l 0 ends = some p) : p.2 < 6 ∧ p.1 = l.take (l.length - (endk p.2).length) ∧ Lib.hasSuffix l (endk p.2) = true := fnd_lt' 6 0 rfl h
end Go.Proofs.YtedgnigogkmgkaaGreatDoor.Nam
