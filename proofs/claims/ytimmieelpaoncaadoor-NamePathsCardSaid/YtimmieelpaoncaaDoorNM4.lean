/- More plain mathematics of names: the path of a row of parts. -/
import Derived.Test.YtimmieelpaoncaaDoorNM3
import Derived.Test.YtimmieelpaoncaaDoorB1
namespace Go.Proofs.YtimmieelpaoncaaDoor.Nam
/-- A path of parts. -/
def pth (xs : List L) : L := xs.flatMap (47 :: ·)
/-- A part that may stand in a path. -/
def gd (x : L) : Prop := okp x = true ∧ ∀ c ∈ x, c ≠ 47
theorem pth_cons (x : L) (r : List L) : pth (x :: r) = 47 :: (x ++ pth r) := by simp [pth]
theorem pth_snoc (xs : List L) (x : L) : pth (xs ++ [x]) = pth xs ++ (47 :: x) := by simp [pth]
theorem pieces_pth : ∀ (r : List L) (x : L), gd x → (∀ y ∈ r, gd y) → pieces (x ++ pth r) = x :: r
  | [], x, hx, _ => by rw [show pth [] = [] from rfl, List.append_nil]; exact pieces_none x hx.2
  | y :: r, x, hx, hr => by
    rw [pth_cons, pieces_split _ _ hx.2, pieces_pth r y (hr y (by simp)) (fun z hz => hr z (by simp [hz]))]
theorem okp_ne {x : L} (h : okp x = true) : x ≠ [] := fun e => by subst e; cases h
theorem no_end : ∀ (r : List L) (x : L), gd x → (∀ y ∈ r, gd y) → Lib.hasSuffix (x ++ pth r) [47] = false
  | [], x, hx, _ => by
    rw [show pth [] = [] from rfl, List.append_nil]
    cases h : Lib.hasSuffix x [47] with
    | false => rfl
    | true =>
      unfold Lib.hasSuffix at h
      rw [List.isSuffixOf_iff_suffix] at h
      exact absurd rfl (hx.2 47 (h.subset (by simp)))
  | y :: r, x, hx, hr => by
    have ih := no_end r y (hr y (by simp)) (fun z hz => hr z (by simp [hz]))
    cases h : Lib.hasSuffix (x ++ pth (y :: r)) [47] with
    | false => rfl
    | true =>
      exfalso
      unfold Lib.hasSuffix at h ih
      rw [List.isSuffixOf_iff_suffix, pth_cons] at h
      have hy := okp_ne (hr y (by simp)).1
      have h2 : (y ++ pth r) <:+ x ++ 47 :: (y ++ pth r) := ⟨x ++ [47], by simp⟩
      have hl : [47].length ≤ (y ++ pth r).length := by
        cases y with
        | nil => exact absurd rfl hy
        | cons a b => simp
      have := List.suffix_of_suffix_length_le h h2 hl
      rw [← List.isSuffixOf_iff_suffix, ih] at this
      cases this
theorem okAll_of {xs : List L} (h : ∀ y ∈ xs, gd y) : okAll xs = true := List.all_eq_true.2 (fun y hy => (h y hy).1)
theorem ofPath_pth {x : L} {r : List L} (hx : gd x) (hr : ∀ y ∈ r, gd y) : ofPath (pth (x :: r)) = some (esc (x ++ pth r)) := by
  have hne := okp_ne hx.1
  have h1 : pth (x :: r) ≠ [47] := by
    rw [pth_cons]; intro e
    have := (List.cons.inj e).2
    cases x with
    | nil => exact hne rfl
    | cons a b => cases this
  unfold ofPath
  rw [if_neg h1, pth_cons]
  show (if (47 : UInt8) = 47 then _ else _) = _
  rw [if_pos rfl, Lib.trimSuffix, no_end r x hx hr]
  show (if okAll (pieces (x ++ pth r)) = true then some (esc (x ++ pth r)) else none) = _
  rw [pieces_pth r x hx hr, okAll_of (by intro y hy; rcases List.mem_cons.1 hy with rfl | hy; exact hx; exact hr y hy)]
  rfl
theorem trim_snoc (y : L) : Lib.trimSuffix (y ++ [47]) [47] = y := by
  rw [Lib.trimSuffix, if_pos (has_self y [47])]
  simp
theorem ofPath_pth2 {x : L} {r : List L} (hx : gd x) (hr : ∀ y ∈ r, gd y) : ofPath (pth (x :: r) ++ [47]) = some (esc (x ++ pth r)) := by
  have h1 : pth (x :: r) ++ [47] ≠ [47] := by
    rw [pth_cons]; intro e
    have := (List.cons.inj e).2
    simp at this
  unfold ofPath
  rw [if_neg h1, pth_cons]
  show (if (47 : UInt8) = 47 then _ else _) = _
  have ht2 : Lib.trimSuffix (x ++ pth r ++ [47]) [47] = x ++ pth r := trim_snoc _
  rw [if_pos rfl]
  show (if okAll (pieces (Lib.trimSuffix (x ++ pth r ++ [47]) [47])) = true then some (esc (Lib.trimSuffix (x ++ pth r ++ [47]) [47])) else none) = _
  rw [ht2, pieces_pth r x hx hr, okAll_of (by intro y hy; rcases List.mem_cons.1 hy with rfl | hy; exact hx; exact hr y hy)]
  rfl
theorem ofPath_x (l : L) : ofPath (120 :: l) = none := by
  unfold ofPath
  rw [if_neg (by intro e; cases e)]
  rfl
end Go.Proofs.YtimmieelpaoncaaDoor.Nam
