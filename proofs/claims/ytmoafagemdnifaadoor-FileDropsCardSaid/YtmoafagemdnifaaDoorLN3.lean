/- Plain mathematics: bounds of whole lines. -/
import Derived.Test.YtmoafagemdnifaaDoorLN2
namespace Go.Proofs.YtmoafagemdnifaaDoor.Lin
/-- How many bytes are left, line feeds with them. -/
def tot : List L → Nat
  | [] => 0
  | p :: r => p.length + 1 + tot r
theorem tot_len : ∀ l : List L, l.length ≤ tot l
  | [] => Nat.le_refl _
  | p :: r => by have := tot_len r; simp only [tot, List.length_cons]; omega
theorem pieces_ne (l : L) : pieces l ≠ [] := by
  cases l with
  | nil => simp [pieces]
  | cons c r =>
    unfold pieces
    split
    · simp
    · split <;> simp
theorem tot_pieces : ∀ l : L, tot (pieces l) = l.length + 1
  | [] => rfl
  | c :: r => by
    have ih := tot_pieces r
    unfold pieces
    split
    · simp only [tot, List.length_nil, List.length_cons, ih]; omega
    · split
      · rename_i p q h
        rw [h] at ih
        simp only [tot, List.length_cons] at ih ⊢
        omega
      · rename_i h
        exact absurd h (pieces_ne r)
theorem whl_out (n : Nat) (x p : L) (r : List L) (h : lout p = true) : whl n 0 x (p :: r) = whl (n + 1) 0 x r := by
  simp [whl, h]
theorem whl_on0 (n : Nat) (x p : L) (r : List L) (h : lout p = false) (h2 : Lib.hasSuffix p [92] = true) : whl n 0 x (p :: r) = whl (n + 1) (n + 1) (x ++ Lib.trimSuffix p [92] ++ [32]) r := by
  simp [whl, h, h2]
theorem whl_on (n b : Nat) (x p : L) (r : List L) (h : b ≠ 0) (h2 : Lib.hasSuffix p [92] = true) : whl n b x (p :: r) = whl (n + 1) b (x ++ Lib.trimSuffix p [92] ++ [32]) r := by
  simp [whl, h, h2]
theorem whl_end0 (n : Nat) (x p : L) (r : List L) (h : lout p = false) (h2 : Lib.hasSuffix p [92] = false) : whl n 0 x (p :: r) = (n + 1, x ++ p) :: whl (n + 1) 0 [] r := by
  simp [whl, h, h2]
theorem whl_end (n b : Nat) (x p : L) (r : List L) (h : b ≠ 0) (h2 : Lib.hasSuffix p [92] = false) : whl n b x (p :: r) = (b, x ++ p) :: whl (n + 1) 0 [] r := by
  simp [whl, h, h2]
theorem trimS_no {p : L} (h : Lib.hasSuffix p [92] = false) : Lib.trimSuffix p [92] = p := by unfold Lib.trimSuffix; rw [h]; rfl
theorem trimS_len {p : L} (h : Lib.hasSuffix p [92] = true) : (Lib.trimSuffix p [92]).length + 1 = p.length := by
  unfold Lib.trimSuffix
  rw [if_pos h, List.length_take]
  have : 1 ≤ p.length := by
    cases p with
    | nil => simp [Lib.hasSuffix] at h
    | cons c r => simp
  simp; omega
end Go.Proofs.YtmoafagemdnifaaDoor.Lin
