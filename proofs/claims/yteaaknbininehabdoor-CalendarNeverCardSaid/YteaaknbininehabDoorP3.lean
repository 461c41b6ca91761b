/- The contract of package calendar's splitUpTo and parseList. -/
import Derived.Test.YteaaknbininehabDoorP2
import Derived.RangeFuncBox
import Derived.Maps.AppendAt
import Derived.OwnWalk
namespace Go.Proofs.YteaaknbininehabDoor
open Go.RowKit
def splitT (s : ByteArray) (sep : ByteArray) (most : Nat) : List ByteArray := Lib.splitB sep 0 (min (most + 1) (s.size + 1) - 1) s
set_option maxHeartbeats 1000000 in
theorem split_any (s sep : ByteArray) (most : Nat) (w : World) (hg : GlP w) (hs : s.size ≤ 100000) (h1 : 1 ≤ sep.size) (hm : most ≤ 1000) :
    Calls Tryd.prog 25 #[.string s, .string sep, .int .i64 most] w fun e w' => ∃ cap, e = .returned (.slice (some ⟨w.heap.size, 0, none⟩) (splitT s sep most).length cap) ∧ (splitT s sep most).length ≤ cap ∧ Below w.heap.size w w' ∧ ∀ j x, (splitT s sep most)[j]? = some x → w'.cell? ⟨w.heap.size, j, none⟩ = some (.string x) := by
  obtain ⟨m, hmx⟩ := hg.mx
  have hI := Tryd.strings_SplitN s sep (most + 1) m w (by omega) hmx h1 (by omega) (by omega)
  have hle : (splitT s sep most).length ≤ min (most + 1) (s.size + 1) := by
    have := Lib.splitB_length_le sep 0 (min (most + 1) (s.size + 1) - 1) s
    unfold splitT
    omega
  rw [show ((most + 1 : Nat) : Int) = (most : Int) + 1 by omega] at hI
  change Calls _ _ _ _ (fun e w' => e = .returned (.slice (some ⟨w.heap.size, 0, none⟩) (splitT s sep most).length (min (most + 1) (s.size + 1))) ∧ w' = w.alloc (.cells (Lib.cellsOf (splitT s sep most) (min (most + 1) (s.size + 1))) 9)) at hI
  obtain ⟨L, hL⟩ : ∃ L, splitT s sep most = L := ⟨_, rfl⟩
  obtain ⟨N, hN⟩ : ∃ N, min (most + 1) (s.size + 1) = N := ⟨_, rfl⟩
  rw [hL, hN] at hI hle
  rw [hL]
  clear hL hN
  go_enter Tryd.func25, Tryd.ntmps25
  go_wp2_with fail
  refine hI.mono ?_
  rintro e w1 ⟨rfl, rfl⟩
  go_wp2_with fail
  go_ret
  refine ⟨_, rfl, hle, (Below.refl _ _).alloc (Nat.le_refl _) _, fun j x h => ?_⟩
  refine cell_at rfl ?_
  unfold Lib.cellsOf
  have hj := (List.getElem?_eq_some_iff.1 h).1
  rw [List.getElem?_toArray, List.getElem?_append_left (by simpa using hj), List.getElem?_map, h]
  rfl
theorem splitB_le (sep : ByteArray) : ∀ (k : Nat) (s : ByteArray), ∀ x ∈ Lib.splitB sep 0 k s, x.size ≤ s.size
  | 0, s, x, hx => by
    rw [Lib.splitB_zero] at hx
    simp at hx; subst hx; exact Nat.le_refl _
  | k + 1, s, x, hx => by
    unfold Lib.splitB at hx
    split at hx
    · simp at hx; subst hx; exact Nat.le_refl _
    · rcases List.mem_cons.1 hx with rfl | h
      · simp [ByteArray.size_extract]; omega
      · have := splitB_le sep k _ x h
        simp [ByteArray.size_extract] at this
        omega
/-- A list of texts, each told by f: all of them, or none. -/
def pL (f : ByteArray → Part × Bool) : List ByteArray → Option (List Part)
  | [] => some []
  | t :: l => if (f t).2 = true then (pL f l).map ((f t).1 :: ·) else none
theorem pL_snoc (f : ByteArray → Part × Bool) : ∀ (l : List ByteArray) (t : ByteArray) (ps : List Part), pL f l = some ps → (f t).2 = true → pL f (l ++ [t]) = some (ps ++ [(f t).1])
  | [], t, ps, h, ht => by cases h; simp [pL, ht]
  | a :: l, t, ps, h, ht => by
    simp only [List.cons_append, pL] at h ⊢
    split at h
    · rename_i ha
      rw [if_pos ha]
      cases hl : pL f l with
      | none => rw [hl] at h; cases h
      | some qs =>
        rw [hl] at h; cases h
        rw [pL_snoc f l t qs hl ht]; rfl
    · cases h
theorem pL_no (f : ByteArray → Part × Bool) : ∀ (l r : List ByteArray) (t : ByteArray), (f t).2 = false → pL f (l ++ t :: r) = none
  | [], r, t, ht => by simp [pL, ht]
  | a :: l, r, t, ht => by
    simp only [List.cons_append, pL]
    split
    · rw [pL_no f l r t ht]; rfl
    · rfl
def cellsP (ps : List Part) : List Value := ps.flatMap fun q => [.bool q.1, .int .i64 q.2.1, .int .i64 q.2.2.1, .int .i64 q.2.2.2]
theorem cellsP_snoc (ps : List Part) (q : Part) : cellsP (ps ++ [q]) = cellsP ps ++ [.bool q.1, .int .i64 q.2.1, .int .i64 q.2.2.1, .int .i64 q.2.2.2] := by simp [cellsP]
theorem cellsP_len (ps : List Part) : (cellsP ps).length = ps.length * 4 := by
  induction ps with
  | nil => rfl
  | cons a r ih => simp [cellsP] at ih ⊢; omega
theorem cellsP_at : ∀ (ps : List Part) (i : Nat) (q : Part), ps[i]? = some q → (cellsP ps)[i * 4]? = some (.bool q.1) ∧ (cellsP ps)[i * 4 + 1]? = some (.int .i64 q.2.1) ∧ (cellsP ps)[i * 4 + 2]? = some (.int .i64 q.2.2.1) ∧ (cellsP ps)[i * 4 + 3]? = some (.int .i64 q.2.2.2)
  | [], i, q, h => by simp at h
  | a :: r, 0, q, h => by simp at h; subst h; simp [cellsP]
  | a :: r, i + 1, q, h => by
    have := cellsP_at r i q (by simpa using h)
    have e : cellsP (a :: r) = [.bool a.1, .int .i64 a.2.1, .int .i64 a.2.2.1, .int .i64 a.2.2.2] ++ cellsP r := by simp [cellsP]
    rw [e]
    rw [List.getElem?_append_right (by simp; omega), List.getElem?_append_right (by simp; omega), List.getElem?_append_right (by simp; omega), List.getElem?_append_right (by simp; omega)]
    simp only [List.length_cons, List.length_nil]
    rw [show (i + 1) * 4 - (0 + 1 + 1 + 1 + 1) = i * 4 by omega, show (i + 1) * 4 + 1 - (0 + 1 + 1 + 1 + 1) = i * 4 + 1 by omega, show (i + 1) * 4 + 2 - (0 + 1 + 1 + 1 + 1) = i * 4 + 2 by omega, show (i + 1) * 4 + 3 - (0 + 1 + 1 + 1 + 1) = i * 4 + 3 by omega]
    exact this
end Go.Proofs.YteaaknbininehabDoor
