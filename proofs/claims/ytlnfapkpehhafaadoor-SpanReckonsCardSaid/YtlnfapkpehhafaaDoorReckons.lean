/- The law SpanReckons answers true at every two numbers: its walk. -/
import Derived.Test.YtlnfapkpehhafaaDoorR1
import Derived.Test.YtlnfapkpehhafaaDoorR3
namespace Go.Proofs.YtlnfapkpehhafaaDoor
open Go.RowKit
set_option maxHeartbeats 400000 in
theorem rPrint_any (n : Int) (w : World) (h0 : -9223372036854775808 ≤ n) (h1 : n ≤ 9223372036854775807) :
    Calls Tryd.prog 15 #[.int .i64 n] w fun e w' => e = .returned (.string ⟨(Sp.print n).toArray⟩) ∧ Below w.heap.size w w' := by
  by_cases hn : 0 ≤ n
  · have he : Sp.print n = Sp.printP n := by unfold Sp.print Sp.low; rw [if_neg (by omega), if_neg (by omega)]
    rw [he]
    exact rPrintP_any n w hn h1
  by_cases hl : n = -9223372036854775808
  · subst hl
    go_enter Tryd.func15, Tryd.ntmps15
    go_wp2_with fail
    go_ret
    exact ⟨rfl, Below.refl _ _⟩
  · have he : Hid (Sp.print n = 45 :: Sp.printP (-n)) := by show _ = _; unfold Sp.print Sp.low; rw [if_neg (by omega), if_pos (by omega)]
    have b1 : (n == 9223372036854775807) = false := by simp; omega
    have b2 : (n == -9223372036854775808) = false := by simpa using hl
    have hn' : n < 0 := by omega
    have h0' : -9223372036854775807 ≤ n := by omega
    have hlen := printP_len (-n) (by omega) (by omega)
    clear hl hn
    go_enter Tryd.func15, Tryd.ntmps15
    go_wp2_with fail
    refine (rPrintP_any (-n) _ (by omega) (by omega)).mono ?_
    rintro e w2 ⟨rfl, hb⟩
    have hadd : ∀ W, (Op.stringOp .add ⟨#[45]⟩ ⟨(Sp.printP (-n)).toArray⟩).run Tryd.prog W = .ok (.string ⟨(45 :: Sp.printP (-n)).toArray⟩) W := fun W => run_string_add_lists W [45] _ (by simp) (by omega)
    go_wp2_with fail
    go_ret
    refine ⟨?_, hb⟩
    rw [he.out]
    rfl
set_option maxHeartbeats 1000000 in
theorem reckons_walk (a b : Int) (w : World) (hT : TabsIn w) (ha : -9223372036854775808 ≤ a) (ha' : a ≤ 9223372036854775807) (hb : -9223372036854775808 ≤ b) (hb' : b ≤ 9223372036854775807) :
    Calls Tryd.prog 3 #[.int .i64 a, .int .i64 b] w fun e w' => e = .returned (.bool true) ∧ Below w.heap.size w w' := by
  go_enter Tryd.func3, Tryd.ntmps3
  go_wp2_with fail
  refine (known_any _ hT).mono ?_
  rintro e w1 ⟨rfl, hb1⟩
  have hT1 := hT.below hb1
  go_wp2_with fail
  refine (add_any a b _ ha ha' hb hb').mono ?_
  rintro e w2 ⟨rfl, rfl⟩
  go_wp2_with fail
  refine (rAdd_any a b _ ha ha' hb hb').mono ?_
  rintro e w2 ⟨rfl, rfl⟩
  go_wp2_with fail
  refine (sub_any a b _ ha ha' hb hb').mono ?_
  rintro e w2 ⟨rfl, rfl⟩
  go_wp2_with fail
  refine (rSub_any a b _ ha ha' hb hb').mono ?_
  rintro e w2 ⟨rfl, rfl⟩
  go_wp2_with fail
  refine (print_any a _ ha ha' hT1).mono ?_
  rintro e w3 ⟨rfl, hb3⟩
  go_wp2_with fail
  refine (rPrint_any a _ ha ha').mono ?_
  rintro e w4 ⟨rfl, hb4⟩
  go_wp2_with fail
  go_ret
  exact ⟨by simp, hb1.trans ((hb3.mono hb1.size).trans (hb4.mono (Nat.le_trans hb1.size hb3.size)))⟩
end Go.Proofs.YtlnfapkpehhafaaDoor
