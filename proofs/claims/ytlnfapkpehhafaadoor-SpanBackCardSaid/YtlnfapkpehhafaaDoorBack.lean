/- The law SpanBack answers true at every three numbers: its walk. -/
import Derived.Test.YtlnfapkpehhafaaDoorW8
import Derived.Test.YtlnfapkpehhafaaDoorMath3
namespace Go.Proofs.YtlnfapkpehhafaaDoor
open Go.RowKit
theorem parse_back (a : Int) (w : World) (h0 : 0 ≤ a) (h1 : a ≤ 9223372036854775807) (hT : TabsIn w) :
    Calls Tryd.prog 16 #[.string ⟨(Sp.print a).toArray⟩] w fun e w' => e = .returned (.tuple #[.int .i64 a, .int .i64 0]) ∧ Below w.heap.size w w' := by
  have hp : Sp.parse (Sp.print a) = some a := Sp.parse_print a h0 h1
  have hl : (Sp.print a).length ≤ maxLen := by
    have e : Sp.print a = Sp.printP a := by unfold Sp.print Sp.low; rw [if_neg (by omega), if_neg (by omega)]
    have := printP_len a h0 h1
    rw [e]; unfold maxLen; omega
  have h := parse_l (Sp.print a) w hl hT.rd (Nat.lt_of_lt_of_le (show 1 < 8 by decide) hT.sz)
  rw [show Sp.parseV (Sp.print a) = a by unfold Sp.parseV; rw [hp]; rfl, show Sp.parseE (Sp.print a) = 0 by unfold Sp.parseE; rw [hp]; rfl] at h
  exact h
theorem add_back (a b : Int) (w : World) (ha : -9223372036854775808 ≤ a) (ha' : a ≤ 9223372036854775807) (hb : -9223372036854775808 ≤ b) (hb' : b ≤ 9223372036854775807) :
    Calls Tryd.prog 10 #[.int .i64 b, .int .i64 a] w fun e w' => e = .returned (.int .i64 (Sp.addS a b)) ∧ w' = w := by
  have h := add_any b a w hb hb' ha ha'
  rwa [Sp.addS_comm b a] at h
set_option maxHeartbeats 1000000 in
theorem back_walk (a b c : Int) (w : World) (hT : TabsIn w) (ha : -9223372036854775808 ≤ a) (ha' : a ≤ 9223372036854775807) (hb : -9223372036854775808 ≤ b) (hb' : b ≤ 9223372036854775807) (hc : -9223372036854775808 ≤ c) (hc' : c ≤ 9223372036854775807) :
    Calls Tryd.prog 5 #[.int .i64 a, .int .i64 b, .int .i64 c] w fun e w' => e = .returned (.bool true) ∧ Below w.heap.size w w' := by
  by_cases h0 : 0 ≤ a
  · by_cases hbc : c < b
    · have hle : Sp.addS a c ≤ Sp.addS a b := Sp.addS_mono a c b ha ha' hb' (by omega)
      go_enter Tryd.func5, Tryd.ntmps5
      go_wp2_with fail
      refine (known_any _ hT).mono ?_
      rintro e w1 ⟨rfl, hb1⟩
      have hT1 := hT.below hb1
      go_wp2_with fail
      refine (print_any a _ ha ha' hT1).mono ?_
      rintro e w2 ⟨rfl, hb2⟩
      have hT2 := hT1.below hb2
      go_wp2_with fail
      refine (parse_back a _ h0 ha' hT2).mono ?_
      rintro e w3 ⟨rfl, hb3⟩
      go_wp2_with fail
      refine (add_any a c _ ha ha' hc hc').mono ?_
      rintro e w4 ⟨rfl, rfl⟩
      go_wp2_with fail
      refine (add_any a b _ ha ha' hb hb').mono ?_
      rintro e w4 ⟨rfl, rfl⟩
      go_wp2_with fail
      refine (add_any a c _ ha ha' hc hc').mono ?_
      rintro e w4 ⟨rfl, rfl⟩
      go_wp2_with fail
      refine (add_back a c _ ha ha' hc hc').mono ?_
      rintro e w4 ⟨rfl, rfl⟩
      go_wp2_with fail
      go_ret
      exact ⟨by simp, hb1.trans ((hb2.mono hb1.size).trans (hb3.mono (Nat.le_trans hb1.size hb2.size)))⟩
    · have hle : Sp.addS a b ≤ Sp.addS a c := Sp.addS_mono a b c ha ha' hc' (by omega)
      go_enter Tryd.func5, Tryd.ntmps5
      go_wp2_with fail
      refine (known_any _ hT).mono ?_
      rintro e w1 ⟨rfl, hb1⟩
      have hT1 := hT.below hb1
      go_wp2_with fail
      refine (print_any a _ ha ha' hT1).mono ?_
      rintro e w2 ⟨rfl, hb2⟩
      have hT2 := hT1.below hb2
      go_wp2_with fail
      refine (parse_back a _ h0 ha' hT2).mono ?_
      rintro e w3 ⟨rfl, hb3⟩
      go_wp2_with fail
      refine (add_any a b _ ha ha' hb hb').mono ?_
      rintro e w4 ⟨rfl, rfl⟩
      go_wp2_with fail
      refine (add_any a c _ ha ha' hc hc').mono ?_
      rintro e w4 ⟨rfl, rfl⟩
      go_wp2_with fail
      refine (add_any a b _ ha ha' hb hb').mono ?_
      rintro e w4 ⟨rfl, rfl⟩
      go_wp2_with fail
      refine (add_back a b _ ha ha' hb hb').mono ?_
      rintro e w4 ⟨rfl, rfl⟩
      go_wp2_with fail
      go_ret
      exact ⟨by simp, hb1.trans ((hb2.mono hb1.size).trans (hb3.mono (Nat.le_trans hb1.size hb2.size)))⟩
  · by_cases hbc : c < b
    · have hle : Sp.addS a c ≤ Sp.addS a b := Sp.addS_mono a c b ha ha' hb' (by omega)
      go_enter Tryd.func5, Tryd.ntmps5
      go_wp2_with fail
      refine (known_any _ hT).mono ?_
      rintro e w1 ⟨rfl, hb1⟩
      have hT1 := hT.below hb1
      go_wp2_with fail
      refine (add_any a c _ ha ha' hc hc').mono ?_
      rintro e w4 ⟨rfl, rfl⟩
      go_wp2_with fail
      refine (add_any a b _ ha ha' hb hb').mono ?_
      rintro e w4 ⟨rfl, rfl⟩
      go_wp2_with fail
      refine (add_any a c _ ha ha' hc hc').mono ?_
      rintro e w4 ⟨rfl, rfl⟩
      go_wp2_with fail
      refine (add_back a c _ ha ha' hc hc').mono ?_
      rintro e w4 ⟨rfl, rfl⟩
      go_wp2_with fail
      go_ret
      exact ⟨by simp, hb1⟩
    · have hle : Sp.addS a b ≤ Sp.addS a c := Sp.addS_mono a b c ha ha' hc' (by omega)
      go_enter Tryd.func5, Tryd.ntmps5
      go_wp2_with fail
      refine (known_any _ hT).mono ?_
      rintro e w1 ⟨rfl, hb1⟩
      have hT1 := hT.below hb1
      go_wp2_with fail
      refine (add_any a b _ ha ha' hb hb').mono ?_
      rintro e w4 ⟨rfl, rfl⟩
      go_wp2_with fail
      refine (add_any a c _ ha ha' hc hc').mono ?_
      rintro e w4 ⟨rfl, rfl⟩
      go_wp2_with fail
      refine (add_any a b _ ha ha' hb hb').mono ?_
      rintro e w4 ⟨rfl, rfl⟩
      go_wp2_with fail
      refine (add_back a b _ ha ha' hb hb').mono ?_
      rintro e w4 ⟨rfl, rfl⟩
      go_wp2_with fail
      go_ret
      exact ⟨by simp, hb1⟩
end Go.Proofs.YtlnfapkpehhafaaDoor
