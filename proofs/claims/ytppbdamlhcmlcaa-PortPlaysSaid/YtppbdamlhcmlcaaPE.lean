/- Pairs held against each other. -/
import Derived.Test.YtppbdamlhcmlcaaPX
import Derived.Laws.StructEq
namespace Go.Proofs.Ytppbdamlhcmlcaa
open Go.RowKit Go.Shelf Go.Lib
theorem bytes_beq (a b : ByteArray) : (a.toList == b.toList) = decide (a = b) := by
  rw [ByteArray.toList_eq, ByteArray.toList_eq]
  by_cases h : a = b
  · subst h; simp
  · rw [decide_eq_false h, beq_eq_false_iff_ne]
    exact fun e => h (ByteArray.ext (Array.toList_inj.1 e))
theorem neqC (w : World) (i k : Int) (s t : ByteArray) : (binOp .neq 41 (.agg #[.int .i64 i, .string s]) (.agg #[.int .i64 k, .string t])).run Try.prog w = .ok (.bool (!(decide ((i, s) = (k, t))))) w := by
  have hb : (s.toList = t.toList) = (s = t) := by
    have := bytes_beq s t
    by_cases h : s = t
    · simp [h]
    · rw [decide_eq_false h, beq_eq_false_iff_ne] at this
      simp [h, this]
  simp [go_sem]
  by_cases h1 : i = k
  · by_cases h2 : s = t
    · simp [h1, h2]
    · simp [h1, h2, hb]
  · simp [h1]
theorem neqD (w : World) (i k : Int) (s t : ByteArray) : (binOp .neq 49 (.agg #[.int .i64 i, .string s]) (.agg #[.int .i64 k, .string t])).run Try.prog w = .ok (.bool (!(decide ((i, s) = (k, t))))) w := by
  have hb : (s.toList = t.toList) = (s = t) := by
    have := bytes_beq s t
    by_cases h : s = t
    · simp [h]
    · rw [decide_eq_false h, beq_eq_false_iff_ne] at this
      simp [h, this]
  simp [go_sem]
  by_cases h1 : i = k
  · by_cases h2 : s = t
    · simp [h1, h2]
    · simp [h1, h2, hb]
  · simp [h1]
end Go.Proofs.Ytppbdamlhcmlcaa
