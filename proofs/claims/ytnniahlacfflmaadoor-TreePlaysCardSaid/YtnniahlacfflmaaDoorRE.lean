/- The contract of the reference's IsPath. -/
import Derived.Test.YtnniahlacfflmaaDoorRD
namespace Go.Proofs.YtnniahlacfflmaaDoor
open Go.RowKit Go.Shelf
attribute [local go_sem] Oper.semAt_some
/-- The part from f to i. -/
def wd (p : ByteArray) (f i : Nat) : L := ((byt p).drop f).take (i - f)
theorem wd_ext (p : ByteArray) (f i : Nat) : (p.extract f i).toList = wd p f i := by
  rw [Lib.toList_data]; unfold wd byt; simp [ByteArray.data_extract, List.extract_eq_take_drop]
theorem wd_same (p : ByteArray) (f : Nat) : wd p f f = [] := by unfold wd; simp
theorem wd_next (p : ByteArray) {f i : Nat} (hf : f ≤ i) (h : i < p.size) : wd p f (i + 1) = wd p f i ++ [p[i]] := by
  unfold wd
  rw [show i + 1 - f = (i - f) + 1 by omega, List.take_add_one, List.getElem?_drop, show f + (i - f) = i by omega, at_byt p i h]
  rfl
theorem drop_at (p : ByteArray) {i : Nat} (h : i < p.size) : (byt p).drop i = p[i] :: (byt p).drop (i + 1) := by
  rw [List.drop_eq_getElem_cons (by rw [byt_len]; exact h)]; rfl
theorem rIs_zero (n : Nat) (w r : L) : rIs n w (0 :: r) = false := rfl
theorem rIs_stroke (n : Nat) (w r : L) : rIs n w (47 :: r) = if okw w = true then rIs (n + 1) [] r else false := by
  show (match (if (47 : UInt8) = 0 then none else if (47 : UInt8) = 47 then (if okw w = true then scan (n + 1) [] r else none) else scan n (w ++ [47]) r) with | some m => decide (m ≤ 8) | none => false) = _
  rw [if_neg (by decide), if_pos rfl]
  cases okw w <;> rfl
theorem rIs_other (n : Nat) (w r : L) {c : UInt8} (h0 : c ≠ 0) (h : c ≠ 47) : rIs n w (c :: r) = rIs n (w ++ [c]) r := by
  show (match (if c = 0 then none else if c = 47 then (if okw w = true then scan (n + 1) [] r else none) else scan n (w ++ [c]) r) with | some m => decide (m ≤ 8) | none => false) = _
  rw [if_neg h0, if_neg h]; rfl
theorem rIs_end (n : Nat) (w : L) : rIs n w [] = if okw w = true then decide (n + 1 ≤ 8) else false := by
  show (match (if okw w = true then some (n + 1) else none) with | some m => decide (m ≤ 8) | none => false) = _
  cases okw w <;> rfl
/-- Where the round is: parts, where the part under way begins, the byte. -/
structure Rdp (p : ByteArray) (bv : Bool) (n f i : Nat) : Prop where
  f1 : 1 ≤ f
  n1 : n ≤ i
  a : i ≤ p.size → f ≤ i ∧ bv = rIs n (wd p f i) ((byt p).drop i)
  z : i = p.size + 1 → bv = decide (n ≤ 8)
  i1 : i ≤ p.size + 1
end Go.Proofs.YtnniahlacfflmaaDoor
