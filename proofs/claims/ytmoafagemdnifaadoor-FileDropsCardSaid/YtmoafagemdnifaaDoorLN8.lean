/- Plain mathematics: whole lines, as the reference makes them. -/
import Derived.Test.YtmoafagemdnifaaDoorLN7
import Derived.Test.YtmoafagemdnifaaDoorLN3
namespace Go.Proofs.YtmoafagemdnifaaDoor.Lin
theorem whl_begin (k : Nat) (p : L) (r : List L) (h : lout p = false) : whl k 0 [] (p :: r) = whl k (k + 1) [] (p :: r) := by
  cases h2 : Lib.hasSuffix p [92]
  · rw [whl_end0 k [] p r h h2, whl_end k (k + 1) [] p r (by omega) h2]
  · rw [whl_on0 k [] p r h h2, whl_on k (k + 1) [] p r (by omega) h2]
theorem suf_iff (A : L) : Lib.hasSuffix A [92] = true ↔ A.getLast? = some 92 := by
  unfold Lib.hasSuffix
  rw [List.isSuffixOf_iff_suffix, List.getLast?_eq_some_iff]
  constructor
  · rintro ⟨t, ht⟩; exact ⟨t, ht.symm⟩
  · rintro ⟨t, ht⟩; exact ⟨t, ht.symm⟩
theorem suf_app (X p : L) (hX : X = [] ∨ ∃ Y, X = Y ++ [32]) : Lib.hasSuffix (X ++ p) [92] = Lib.hasSuffix p [92] := by
  rw [Bool.eq_iff_iff, suf_iff, suf_iff]
  rcases List.eq_nil_or_concat p with rfl | ⟨a, c, rfl⟩
  · rcases hX with rfl | ⟨Y, rfl⟩
    · simp
    · simp
  · simp [← List.append_assoc]
theorem suf_cut (X p : L) (h : Lib.hasSuffix p [92] = true) : (X ++ p).take ((X ++ p).length - 1) = X ++ Lib.trimSuffix p [92] := by
  rw [suf_iff, List.getLast?_eq_some_iff] at h
  obtain ⟨a, rfl⟩ := h
  rw [trim92, ← List.append_assoc]
  have : (X ++ a ++ [92]).length - 1 = (X ++ a).length := by simp
  rw [this, List.take_left]
theorem suf_at {A : L} (h : Lib.hasSuffix A [92] = true) : ∃ N, A.length = N + 1 ∧ A[N]? = some 92 := by
  rw [suf_iff] at h
  rcases List.eq_nil_or_concat A with rfl | ⟨a, c, rfl⟩
  · simp at h
  · refine ⟨a.length, by simp, ?_⟩
    simp at h
    simp [h]
theorem suf_no {A : L} (h : Lib.hasSuffix A [92] = false) : A = [] ∨ ∃ N c, A.length = N + 1 ∧ A[N]? = some c ∧ c ≠ 92 := by
  rcases List.eq_nil_or_concat A with rfl | ⟨a, c, rfl⟩
  · exact .inl rfl
  · refine .inr ⟨a.length, c, by simp, by simp, ?_⟩
    rintro rfl
    have : Lib.hasSuffix (a.concat 92) [92] = true := by rw [suf_iff]; simp
    rw [this] at h; cases h
theorem tot_drop {P : List L} {j : Nat} {p : L} (h : P[j]? = some p) : tot (P.drop j) = p.length + 1 + tot (P.drop (j + 1)) := by
  obtain ⟨hl, hc⟩ := List.getElem?_eq_some_iff.1 h
  rw [List.drop_eq_getElem_cons hl, hc]
  simp only [tot]
  try omega
theorem dropP {P : List L} {j : Nat} {p : L} (h : P[j]? = some p) : P.drop j = p :: P.drop (j + 1) := by
  obtain ⟨hl, hc⟩ := List.getElem?_eq_some_iff.1 h
  rw [List.drop_eq_getElem_cons hl, hc]
theorem lout_no {p : L} (h : lout p = false) : ∃ c r, trim p = c :: r ∧ c ≠ 35 ∧ c ≠ 59 := by
  rw [lout_trim] at h
  cases ht : trim p with
  | nil => rw [ht] at h; cases h
  | cons c r => rw [ht] at h; simp at h; exact ⟨c, r, rfl, h.1, h.2⟩
theorem lout_yes {p : L} (h : lout p = true) : trim p = [] ∨ ∃ c r, trim p = c :: r ∧ (c = 35 ∨ c = 59) := by
  rw [lout_trim] at h
  cases ht : trim p with
  | nil => exact .inl rfl
  | cons c r => rw [ht] at h; simp at h; exact .inr ⟨c, r, rfl, h⟩
end Go.Proofs.YtmoafagemdnifaaDoor.Lin
