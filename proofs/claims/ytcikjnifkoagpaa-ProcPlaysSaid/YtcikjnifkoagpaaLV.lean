/- ProcPlays, for the row that came in. -/
import Derived.Test.YtcikjnifkoagpaaLT
namespace Go.Proofs.Ytcikjnifkoagpaa
open Go.RowKit Go.Shelf Go.ChangeShapes Go.WideShapes
theorem rd_steps2 {W : World} {a : Option Addr} {len cap : Nat} (h : Rd Try.prog W 22 [.slice a len cap]) : ∃ l : List Stp, l.length = len ∧ StepsAt W a l ∧ len ≤ 140737488355328 := by
  obtain ⟨p, c, l, e, h1, h2⟩ := rd_steps h
  injection e with e1 e2 e3
  subst e1
  exact ⟨l, e2.symm, h1, by omega⟩
theorem plays_own (rm : Int) (p0 : Option Addr) (n c0 : Nat) (w : World) (r1 : -9223372036854775808 ≤ rm) (r2 : rm ≤ 9223372036854775807) (h : ∃ l : List Stp, l.length = n ∧ StepsAt w p0 l ∧ n ≤ 140737488355328) :
    Calls Try.prog 3 #[.int .i64 rm, .slice p0 n c0] w fun e V => e = .returned (.bool true) ∧ Below w.heap.size w V := by
  obtain ⟨ss, h⟩ := h
  exact plays_walk rm p0 n c0 ss w r1 r2 h
end Go.Proofs.Ytcikjnifkoagpaa
