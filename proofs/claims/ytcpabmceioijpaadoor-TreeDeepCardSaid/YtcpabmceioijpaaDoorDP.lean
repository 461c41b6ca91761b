/- TreeDeep: plain. -/
import Derived.Test.YtcpabmceioijpaaDoorTL
namespace Go.Proofs.YtcpabmceioijpaaDoor
open Go.RowKit Go.Shelf
def repB (z : Nat) : ByteArray := mkS (List.replicate z 112)
def pthL (z : Nat) : Nat → L
  | 0 => []
  | i + 1 => pthL z i ++ 47 :: List.replicate z 112
def pB (z i : Nat) : ByteArray := mkS (pthL z i)
theorem pthL_len (z : Nat) : ∀ i, (pthL z i).length = i * (z + 1)
  | 0 => by simp [pthL]
  | i + 1 => by simp only [pthL, List.length_append, List.length_cons, List.length_replicate, pthL_len z i]; rw [Nat.succ_mul]
theorem pB_size (z i : Nat) : (pB z i).size = i * (z + 1) := pthL_len z i
theorem pthL_front (z : Nat) : ∀ i, pthL z (i + 1) = 47 :: (List.replicate z 112 ++ pthL z i)
  | 0 => by simp [pthL]
  | i + 1 => by
    show pthL z (i + 1) ++ 47 :: List.replicate z 112 = _
    conv => lhs; rw [pthL_front z i]
    simp [pthL]
theorem no47 (z : Nat) : ∀ x ∈ (List.replicate z 112 : L), x ≠ 47 := fun x hx => by
  have := List.eq_of_mem_replicate hx
  subst this
  decide
theorem pieces_pth (z : Nat) : ∀ i, pieces (List.replicate z 112 ++ pthL z i) = List.replicate (i + 1) (List.replicate z 112)
  | 0 => by
    show pieces (List.replicate z 112 ++ []) = _
    rw [List.append_nil, pieces_none _ (no47 z)]
    rfl
  | i + 1 => by
    rw [pthL_front, pieces_split _ _ (no47 z), pieces_pth z i]
    rfl
theorem okp_rep {z : Nat} (hz : 1 ≤ z) (hz2 : z ≤ 50) : okp (List.replicate z 112) = decide (z ≤ 40) := by
  have : ∀ k : Fin 51, 1 ≤ k.val → okp (List.replicate k.val 112) = decide (k.val ≤ 40) := by decide +kernel
  exact this ⟨z, by omega⟩ hz
theorem okAll_rep (p : L) : ∀ (n i : Nat), okAll n (List.replicate (i + 1) p) = (decide (n + i < 8) && okp p)
  | n, 0 => by
    show (decide (n < 8) && (okp p && true)) = _
    simp
  | n, i + 1 => by
    show (decide (n < 8) && (okp p && okAll (n + 1) (List.replicate (i + 1) p))) = _
    rw [okAll_rep p (n + 1) i, show n + 1 + i = n + (i + 1) by omega]
    cases okp p with
    | false => simp
    | true =>
      simp only [Bool.true_and, Bool.and_true]
      by_cases h : n + (i + 1) < 8
      · rw [decide_eq_true h, decide_eq_true (show n < 8 by omega)]; rfl
      · rw [decide_eq_false h]; simp
theorem isP_pB {z : Nat} (hz : 1 ≤ z) (hz2 : z ≤ 50) (i : Nat) : isP (pB z (i + 1)) = (decide (i < 8) && decide (z ≤ 40)) := by
  show isPL (pthL z (i + 1)) = _
  rw [pthL_front]
  show ((47 : UInt8) == 47 && ((List.replicate z 112 ++ pthL z i) == [] || okAll 0 (pieces (List.replicate z 112 ++ pthL z i)))) = _
  have : ((List.replicate z 112 ++ pthL z i) == []) = false := by
    obtain ⟨m, rfl⟩ : ∃ m, z = m + 1 := ⟨z - 1, by omega⟩
    rfl
  rw [this, pieces_pth, okAll_rep, okp_rep hz hz2, Nat.zero_add]
  rfl
theorem fo_pB (z i : Nat) : fo (pB z (i + 1)) = if i = 0 then rootS else pB z i := by
  show mkS (foL (pthL z i ++ 47 :: List.replicate z 112)) = _
  unfold foL
  rw [lastCut_at _ (no47 z)]
  cases i with
  | zero => rfl
  | succ i =>
    have : pthL z (i + 1) ≠ [] := by rw [pthL_front]; simp
    simp only [this, if_false, Nat.succ_ne_zero]
    rfl
/-- Behind j rounds. -/
structure DJ (z j : Nat) (P : Pl) : Prop where
  r : (P.nd rootS).f = true
  f : z ≤ 40 → ∀ i, 1 ≤ i → i ≤ j → i ≤ 8 → (P.nd (pB z i)).f = true
  k : ∀ x ∈ P.ks, x.size ≤ 1 + j * (z + 1)
theorem DJ.zero (z : Nat) : DJ z 0 pl0 := ⟨rfl, fun _ i h1 h2 => by omega, fun x hx => by
  have : x = rootS := by simpa [pl0] using hx
  rw [this]
  show 1 ≤ _
  omega⟩
theorem DJ.bad {z j : Nat} {P : Pl} (h : DJ z j P) (hb : 40 < z ∨ 8 ≤ j) : DJ z (j + 1) P :=
  ⟨h.r, fun hz i h1 h2 h3 => h.f hz i h1 (by omega) h3, fun x hx => by have := h.k x hx; rw [Nat.succ_mul]; omega⟩
theorem bumpN_f (nd : ByteArray → Nd) (s : ByteArray) (d : Int) (x : ByteArray) : (bumpN nd s d x).f = (nd x).f := by
  unfold bumpN
  by_cases e : x = s
  · rw [e, up_same]
  · rw [up_other _ _ e]
theorem DJ.ok {z j : Nat} {P : Pl} (h : DJ z j P) (hz : 1 ≤ z) (hz2 : z ≤ 40) (hj : j < 8) : makeP P (pB z (j + 1)) true = (0, (makeP P (pB z (j + 1)) true).2) ∧ DJ z (j + 1) (makeP P (pB z (j + 1)) true).2 ∧ inS (pB z (j + 1)) (makeP P (pB z (j + 1)) true).2.ks = true := by
  have h1 : isP (pB z (j + 1)) = true := by rw [isP_pB hz (by omega), decide_eq_true hj, decide_eq_true hz2]; rfl
  have hsz := pB_size z (j + 1)
  rw [Nat.succ_mul] at hsz
  have h2 : inS (pB z (j + 1)) P.ks = false := inS_no.2 (fun q => by
    have := h.k _ q
    omega)
  have h3 : (P.nd (fo (pB z (j + 1)))).f = true := by
    rw [fo_pB]
    split
    · exact h.r
    · exact h.f hz2 j (by omega) (Nat.le_refl _) (by omega)
  rw [makeP_ok _ _ _ h1 h2 h3]
  refine ⟨rfl, ⟨?_, fun _ i hi1 hi2 hi3 => ?_, fun x hx => ?_⟩, inS_iff.2 (mem_insS.2 (.inl rfl))⟩
  · show (bumpN _ _ _ _).f = true
    rw [bumpN_f]
    have : rootS ≠ pB z (j + 1) := fun e => by
      have := congrArg ByteArray.size e
      rw [pB_size, Nat.succ_mul] at this
      have h0 : rootS.size = 1 := rfl
      omega
    rw [up_other _ _ this]
    exact h.r
  · show (bumpN _ _ _ _).f = true
    rw [bumpN_f]
    by_cases e : i = j + 1
    · rw [e, up_same]
    · have hne : pB z i ≠ pB z (j + 1) := fun q => by
        have := congrArg ByteArray.size q
        rw [pB_size, pB_size] at this
        have := Nat.eq_of_mul_eq_mul_right (by omega) this
        exact e this
      rw [up_other _ _ hne]
      exact h.f hz2 i hi1 (by omega) hi3
  · rcases mem_insS.1 hx with rfl | hx
    · rw [pB_size]; omega
    · have := h.k x hx
      rw [Nat.succ_mul]; omega
theorem DJ.badM {z j : Nat} {P : Pl} (hz : 1 ≤ z) (hz2 : z ≤ 50) (hb : 40 < z ∨ 8 ≤ j) : makeP P (pB z (j + 1)) true = (111, P) := by
  refine makeP_form _ _ _ ?_
  rw [isP_pB hz hz2]
  rcases hb with h | h
  · rw [decide_eq_false (show ¬ z ≤ 40 by omega)]; simp
  · rw [decide_eq_false (show ¬ j < 8 by omega)]; rfl
end Go.Proofs.YtcpabmceioijpaaDoor
