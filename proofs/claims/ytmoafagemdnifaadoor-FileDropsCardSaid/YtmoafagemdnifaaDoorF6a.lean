/- The contract of unitfile.Parse, for every text. -/
import Derived.Test.YtmoafagemdnifaaDoorF5
namespace Go.Proofs.YtmoafagemdnifaaDoor
open Go.RowKit Go.Shelf Lin
theorem lnsW_len : ∀ (r : List (Nat × L)) (l : List Ln), lnsW r = .ok l → l.length ≤ r.length
  | [], l, h => by simp [lnsW] at h; subst h; simp
  | (n, t) :: r, l, h => by
    unfold lnsW at h
    split at h
    · cases h
    · split at h
      · cases h
      · split at h
        · rename_i l' hl'
          have := lnsW_len r l' hl'
          cases h; simp; omega
        · cases h
theorem lnsW_err : ∀ (r : List (Nat × L)) (n : Nat) (k : Int), lnsW r = .error (n, k) → k ≠ 0
  | [], n, k, h => by simp [lnsW] at h
  | (m, t) :: r, n, k, h => by
    unfold lnsW at h
    split at h
    · cases h; decide
    · split at h
      · cases h; decide
      · split at h
        · cases h
        · rename_i e he
          cases h
          exact lnsW_err r n k he
theorem lns_len (s : L) (l : List Ln) (h : lns s = .ok l) : l.length ≤ 5000 := by
  unfold lns at h
  split at h
  · cases h
  · have h1 := lnsW_len _ _ h
    have h2 := whl_len (pieces s) 0 0 []
    have h3 := tot_len (pieces s)
    rw [tot_pieces] at h3
    omega
theorem lns_err (s : L) (n : Nat) (k : Int) (h : lns s = .error (n, k)) : k ≠ 0 := by
  unfold lns at h
  split at h
  · cases h; decide
  · exact lnsW_err _ _ _ h
/-- A unit file of a text. -/
def fil (s : L) : FRes := filL (lns s)
theorem fparse_any (s : ByteArray) (w : World) (hg : Mx w) : Calls Tryd.prog 8 #[.string s] w (ParseP (fil s.data.toList) w) :=
  parse_lines s w (lns s.data.toList) (fun w hg => lines_any s w hg) (lns_len _) (lns_err _) hg
end Go.Proofs.YtmoafagemdnifaaDoor
