/- More plain mathematics: cutting at a byte. -/
import Derived.Test.YtmoafagemdnifaaDoorLN
namespace Go.Proofs.YtmoafagemdnifaaDoor.Lin
theorem occ1 (l : L) (c : UInt8) (k : Nat) : Lib.occAt l [c] k = (l[k]? == some c) := by
  unfold Lib.occAt
  have : l[k]? = (l.drop k)[0]? := by rw [List.getElem?_drop]; simp
  rw [this]
  cases l.drop k with
  | nil => rfl
  | cons a r =>
    show (c == a && [].isPrefixOf r) = (some a == some c)
    rw [Bool.eq_iff_iff]
    simp
    exact eq_comm
theorem index_at {l : L} {c : UInt8} {k : Nat} (h : Lib.NoOcc l [c] k) (hk : l[k]? = some c) : Lib.index l [c] = k := by
  have hlt : k < l.length := (List.getElem?_eq_some_iff.1 hk).1
  exact Lib.index_hit h (by omega) (by rw [occ1, hk]; simp)
theorem noOcc_next {l : L} {c x : UInt8} {k : Nat} (h : Lib.NoOcc l [c] k) (hk : l[k]? = some x) (hne : x ≠ c) : Lib.NoOcc l [c] (k + 1) :=
  h.succ (by rw [occ1, hk]; simpa using hne)
theorem index_no {l : L} {c : UInt8} (h : Lib.NoOcc l [c] l.length) : Lib.index l [c] = -1 := Lib.index_past (by simp) h (by simp)
theorem index_none' {l : L} {c : UInt8} (h : ∀ x ∈ l, x ≠ c) : Lib.index l [c] = -1 := by
  refine index_no fun j _ => ?_
  rw [occ1]
  cases hj : l[j]? with
  | none => rfl
  | some x => simpa using h x (List.mem_of_getElem? hj)
theorem index_split {a b : L} {c : UInt8} (h : ∀ x ∈ a, x ≠ c) : Lib.index (a ++ c :: b) [c] = a.length := by
  refine index_at (fun j hj => ?_) (by simp)
  rw [occ1, List.getElem?_append_left hj]
  cases hx : a[j]? with
  | none => rfl
  | some x => simpa using h x (List.mem_of_getElem? hx)
theorem cut_none {l : L} {c : UInt8} (h : ∀ x ∈ l, x ≠ c) : Lib.cut l [c] = (l, [], false) := by
  unfold Lib.cut
  rw [index_none' h, if_neg (by omega)]
theorem cut_split {a b : L} {c : UInt8} (h : ∀ x ∈ a, x ≠ c) : Lib.cut (a ++ c :: b) [c] = (a, b, true) := by
  unfold Lib.cut
  rw [index_split h, if_pos (by omega)]
  simp
theorem split_cases (l : L) (c : UInt8) : (∀ x ∈ l, x ≠ c) ∨ ∃ a b, l = a ++ c :: b ∧ ∀ x ∈ a, x ≠ c := by
  induction l with
  | nil => exact .inl (by simp)
  | cons d r ih =>
    by_cases hd : d = c
    · exact .inr ⟨[], r, by simp [hd], by simp⟩
    · rcases ih with h | ⟨a, b, rfl, h⟩
      · exact .inl (by intro x hx; rcases List.mem_cons.1 hx with rfl | hx; exact hd; exact h x hx)
      · exact .inr ⟨d :: a, b, rfl, by intro x hx; rcases List.mem_cons.1 hx with rfl | hx; exact hd; exact h x hx⟩
end Go.Proofs.YtmoafagemdnifaaDoor.Lin
