/- Contracts of package span's Add, Sub and times. -/
import Derived.Test.YtlnfapkpehhafaaDoorProg
import Derived.Test.YtlnfapkpehhafaaDoorMath
import Derived.WalkKit
import Derived.WalkSpells
import Derived.Deep.Light
namespace Go.Proofs.YtlnfapkpehhafaaDoor
open Go.RowKit
theorem ret_int {k : IntKind} {a b : Int} (h : a = b) : Ending.returned (.int k a) = .returned (.int k b) := by rw [h]
set_option maxHeartbeats 400000 in
theorem add_any (a b : Int) (w : World) (ha : -9223372036854775808 ≤ a) (ha' : a ≤ 9223372036854775807) (hb : -9223372036854775808 ≤ b) (hb' : b ≤ 9223372036854775807) :
    Calls Tryd.prog 10 #[.int .i64 a, .int .i64 b] w fun e w' => e = .returned (.int .i64 (Sp.addS a b)) ∧ w' = w := by
  go_enter Tryd.func10, Tryd.ntmps10
  go_wp2
  all_goals go_ret
  all_goals refine ⟨ret_int ?_, rfl⟩
  all_goals go_light
  all_goals (try simp only [beq_iff_eq, beq_eq_false_iff_ne, ne_eq] at *)
  all_goals unfold Sp.addS Sp.top Sp.low
  all_goals (repeat' split) <;> omega
set_option maxHeartbeats 400000 in
theorem sub_any (a b : Int) (w : World) (ha : -9223372036854775808 ≤ a) (ha' : a ≤ 9223372036854775807) (hb : -9223372036854775808 ≤ b) (hb' : b ≤ 9223372036854775807) :
    Calls Tryd.prog 12 #[.int .i64 a, .int .i64 b] w fun e w' => e = .returned (.int .i64 (Sp.subS a b)) ∧ w' = w := by
  go_enter Tryd.func12, Tryd.ntmps12
  go_wp2
  all_goals go_ret
  all_goals refine ⟨ret_int ?_, rfl⟩
  all_goals go_light
  all_goals (try simp only [beq_iff_eq, beq_eq_false_iff_ne, ne_eq] at *)
  all_goals unfold Sp.subS Sp.top Sp.low
  all_goals (repeat' split) <;> omega
set_option maxHeartbeats 400000 in
theorem times_any (n k : Int) (w : World) (h0 : 0 ≤ n) (hk : 1 ≤ k) (hk' : k ≤ 604800) :
    Calls Tryd.prog 37 #[.int .i64 n, .int .i64 k] w fun e w' => e = .returned (.int .i64 (Sp.timesS n k)) ∧ w' = w := by
  by_cases h : n ≤ 9223372036854775807 / k
  · have hm : n * k ≤ 9223372036854775807 := Int.mul_le_of_le_ediv (by omega) h
    have hm0 : 0 ≤ n * k := Int.mul_nonneg h0 (by omega)
    have he : Hid (Sp.timesS n k = n * k) := by show _ = _; unfold Sp.timesS Sp.top; rw [if_neg (by omega)]
    go_enter Tryd.func37, Tryd.ntmps37
    go_wp2
    go_ret
    exact ⟨ret_int he.out.symm, rfl⟩
  · have he : Hid (Sp.timesS n k = 9223372036854775807) := by show _ = _; unfold Sp.timesS Sp.top; rw [if_pos (by omega)]
    go_enter Tryd.func37, Tryd.ntmps37
    go_wp2
    go_ret
    exact ⟨ret_int he.out.symm, rfl⟩
end Go.Proofs.YtlnfapkpehhafaaDoor
