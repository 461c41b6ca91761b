/- More plain mathematics of names: a text with an ending; what is escaped is spelt; paths. -/
import Derived.Test.YtimmieelpaoncaaDoorNM2
namespace Go.Proofs.YtimmieelpaoncaaDoor.Nam
theorem clash : ∀ j k : Fin 6, j ≠ k → (endk j.val).isSuffixOf (endk k.val) = false ∧ (endk k.val).isSuffixOf (endk j.val) = false := by decide +kernel
theorem has_self (p e : L) : Lib.hasSuffix (p ++ e) e = true := by unfold Lib.hasSuffix; rw [List.isSuffixOf_iff_suffix]; exact List.suffix_append p e
theorem no_clash (p : L) (j k : Nat) (hj : j < 6) (hk : k < 6) (h : j ≠ k) : Lib.hasSuffix (p ++ endk k) (endk j) = false := by
  cases hs : Lib.hasSuffix (p ++ endk k) (endk j) with
  | false => rfl
  | true =>
    exfalso
    unfold Lib.hasSuffix at hs
    rw [List.isSuffixOf_iff_suffix] at hs
    have h2 : endk k <:+ p ++ endk k := List.suffix_append p _
    obtain ⟨c1, c2⟩ := clash ⟨j, hj⟩ ⟨k, hk⟩ (fun e => h (by cases e; rfl))
    rcases Nat.le_total (endk j).length (endk k).length with hl | hl
    · have := List.suffix_of_suffix_length_le hs h2 hl
      rw [← List.isSuffixOf_iff_suffix] at this
      simp only at c1
      rw [c1] at this; cases this
    · have := List.suffix_of_suffix_length_le h2 hs hl
      rw [← List.isSuffixOf_iff_suffix] at this
      simp only at c2
      rw [c2] at this; cases this
theorem fnd_app (p : L) (k : Nat) (hk : k < 6) : ∀ (n j : Nat), j + n = k → fnd (p ++ endk k) j (ends.drop j) = some (p, k)
  | 0, j, h => by
    obtain rfl : j = k := by omega
    obtain ⟨e, he⟩ : ∃ e, ends[j]? = some e := ⟨_, List.getElem?_eq_getElem (by simpa [ends] using hk)⟩
    rw [fnd_step _ _ e he, endk_of he, if_pos (has_self p e)]
    simp
  | n + 1, j, h => by
    obtain ⟨e, he⟩ : ∃ e, ends[j]? = some e := ⟨_, List.getElem?_eq_getElem (by simp [ends]; omega)⟩
    have hc := no_clash p j k (by omega) hk (by omega)
    rw [endk_of he] at hc
    rw [fnd_step _ _ e he, if_neg (by rw [hc]; simp)]
    exact fnd_app p k hk n (j + 1) (by omega)
theorem fnd_end (p : L) (k : Nat) (hk : k < 6) : fnd (p ++ endk k) 0 ends = some (p, k) := fnd_app p k hk k 0 (by omega)
theorem cutN_end (p : L) (k : Nat) (hk : k < 6) (hl : (p ++ endk k).length ≤ 60) : cutN (p ++ endk k) = stm p k := by
  unfold cutN
  rw [if_neg (by omega), fnd_end p k hk]
  rfl
theorem stm_plain {p : L} {k : Nat} (h0 : p ≠ []) (hs : p.all sp = true) : stm p k = some (p, [], false, k) := by
  have hc := cut_none (not_at_of_all hs)
  unfold stm spelt
  rw [hc]
  simp only
  rw [hs, show (p == []) = false by simpa using h0]
  rfl
theorem stm_at {p i : L} {k : Nat} (h0 : p ≠ []) (hs : p.all sp = true) (hi : i.all sp = true) : stm (p ++ 64 :: i) k = some (p, i, true, k) := by
  have hc := cut_split (b := i) (not_at_of_all hs)
  unfold stm spelt
  rw [hc]
  simp only
  rw [hs, hi, show (p == []) = false by simpa using h0]
  rfl
theorem e1_sp : ∀ (f : Bool) (c : UInt8), (e1 f c).all sp = true := by
  intro f
  refine all8 _ ?_
  cases f <;> decide +kernel
theorem flat_sp (f : Bool) : ∀ l : L, (l.flatMap (e1 f)).all sp = true
  | [] => rfl
  | c :: r => by rw [List.flatMap_cons, List.all_append, e1_sp, flat_sp f r]; rfl
theorem esc_sp (l : L) : (esc l).all sp = true := by
  cases l with
  | nil => rfl
  | cons c r => rw [esc, List.all_append, e1_sp, flat_sp]; rfl
theorem esc_ne {l : L} (h : l ≠ []) : esc l ≠ [] := fun e => by
  have := rd_esc l
  rw [e, rd_nil] at this
  exact h (Option.some.inj this).symm
theorem pieces_ne (l : L) (h : okAll (pieces l) = true) : l ≠ [] := fun e => by subst e; cases h
/-- A path's name is the stem of a name. -/
theorem ofPath_stem {s p : L} (h : ofPath s = some p) : p ≠ [] ∧ p.all sp = true := by
  unfold ofPath at h
  split at h
  · cases h; exact ⟨by simp, by decide +kernel⟩
  · split at h
    · cases h
    · split at h
      · split at h
        · rename_i hk
          cases h
          exact ⟨esc_ne (pieces_ne _ hk), esc_sp _⟩
        · cases h
      · cases h
theorem mount_is {s p : L} (h : ofPath s = some p) (hl : p.length ≤ 50) : (cutN (p ++ [46, 109, 111, 117, 110, 116])).isSome = true := by
  obtain ⟨h0, h1⟩ := ofPath_stem h
  have : (p ++ [46, 109, 111, 117, 110, 116]) = p ++ endk 4 := rfl
  rw [this, cutN_end p 4 (by omega) (by simp [endk, ends]; omega), stm_plain h0 h1]
  rfl
end Go.Proofs.YtimmieelpaoncaaDoor.Nam
