/- Contracts of the reference's Add and Sub. -/
import Derived.Test.YtlnfapkpehhafaaDoorW1
namespace Go.Proofs.YtlnfapkpehhafaaDoor
open Go.RowKit
theorem u64w (x : Int) : IntKind.u64.wrap x = x % 18446744073709551616 := by
  simp [IntKind.wrap, IntKind.bits, IntKind.signed]
theorem wadd (a b : Int) : wrap64 (IntKind.u64.wrap (IntKind.u64.wrap a + IntKind.u64.wrap b)) = wrap64 (a + b) := by
  simp only [u64w]; unfold wrap64; omega
theorem wsub (a b : Int) : wrap64 (IntKind.u64.wrap (IntKind.u64.wrap a - IntKind.u64.wrap b)) = wrap64 (a - b) := by
  simp only [u64w]; unfold wrap64; omega
set_option maxHeartbeats 1000000 in
theorem rAdd_any (a b : Int) (w : World) (ha : -9223372036854775808 ≤ a) (ha' : a ≤ 9223372036854775807) (hb : -9223372036854775808 ≤ b) (hb' : b ≤ 9223372036854775807) :
    Calls Tryd.prog 11 #[.int .i64 a, .int .i64 b] w fun e w' => e = .returned (.int .i64 (Sp.addS a b)) ∧ w' = w := by
  go_enter Tryd.func11, Tryd.ntmps11
  go_wp2
  all_goals go_ret
  all_goals refine ⟨ret_int ?_, rfl⟩
  all_goals go_light
  all_goals (try simp only [wadd] at *)
  all_goals (try simp only [beq_iff_eq, beq_eq_false_iff_ne, ne_eq, Bool.not_eq_true', Bool.not_eq_false', decide_eq_decide] at *)
  all_goals unfold Sp.addS Sp.top Sp.low
  all_goals (try unfold wrap64 at *)
  all_goals (repeat' split) <;> omega
set_option maxHeartbeats 1000000 in
theorem rSub_any (a b : Int) (w : World) (ha : -9223372036854775808 ≤ a) (ha' : a ≤ 9223372036854775807) (hb : -9223372036854775808 ≤ b) (hb' : b ≤ 9223372036854775807) :
    Calls Tryd.prog 13 #[.int .i64 a, .int .i64 b] w fun e w' => e = .returned (.int .i64 (Sp.subS a b)) ∧ w' = w := by
  go_enter Tryd.func13, Tryd.ntmps13
  go_wp2
  all_goals go_ret
  all_goals refine ⟨ret_int ?_, rfl⟩
  all_goals go_light
  all_goals (try simp only [wsub] at *)
  all_goals (try simp only [beq_iff_eq, beq_eq_false_iff_ne, ne_eq, Bool.not_eq_true', Bool.not_eq_false', decide_eq_decide] at *)
  all_goals unfold Sp.subS Sp.top Sp.low
  all_goals (try unfold wrap64 at *)
  all_goals (repeat' split) <;> omega
end Go.Proofs.YtlnfapkpehhafaaDoor
