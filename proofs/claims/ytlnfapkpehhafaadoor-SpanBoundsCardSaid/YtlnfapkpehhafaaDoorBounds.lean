/- The law SpanBounds answers true at every two numbers: its walk. -/
import Derived.Test.YtlnfapkpehhafaaDoorW8
namespace Go.Proofs.YtlnfapkpehhafaaDoor
open Go.RowKit
theorem add_top (a : Int) (w : World) (ha : -9223372036854775808 ≤ a) (ha' : a ≤ 9223372036854775807) : Calls Tryd.prog 10 #[.int .i64 a, .int .i64 9223372036854775807] w fun e w' => e = .returned (.int .i64 9223372036854775807) ∧ w' = w := by
  have h := add_any a 9223372036854775807 w ha ha' (by omega) (by omega)
  rwa [show Sp.addS a 9223372036854775807 = 9223372036854775807 by unfold Sp.addS Sp.top; rw [if_pos (.inr rfl)]] at h
theorem sub_top (a : Int) (w : World) (ha : -9223372036854775808 ≤ a) (ha' : a ≤ 9223372036854775807) : Calls Tryd.prog 12 #[.int .i64 9223372036854775807, .int .i64 a] w fun e w' => e = .returned (.int .i64 9223372036854775807) ∧ w' = w := by
  have h := sub_any 9223372036854775807 a w (by omega) (by omega) ha ha'
  rwa [show Sp.subS 9223372036854775807 a = 9223372036854775807 by unfold Sp.subS Sp.top; rw [if_pos rfl]] at h
theorem sub_of_top (a : Int) (w : World) (ha : -9223372036854775808 ≤ a) (ha' : a < 9223372036854775807) : Calls Tryd.prog 12 #[.int .i64 a, .int .i64 9223372036854775807] w fun e w' => e = .returned (.int .i64 (-9223372036854775808)) ∧ w' = w := by
  have h := sub_any a 9223372036854775807 w ha (by omega) (by omega) (by omega)
  rwa [show Sp.subS a 9223372036854775807 = -9223372036854775808 by unfold Sp.subS Sp.top Sp.low; rw [if_neg (by omega), if_pos rfl]] at h
theorem addS_in (a b : Int) (h : -9223372036854775808 ≤ a + b) (h' : a + b < 9223372036854775807) (ha : a < 9223372036854775807) (hb : b < 9223372036854775807) : Sp.addS a b = a + b := by
  unfold Sp.addS Sp.top Sp.low; rw [if_neg (by omega), if_neg (by omega), if_neg (by omega)]
theorem subS_in (a b : Int) (h : -9223372036854775808 ≤ a - b) (h' : a - b ≤ 9223372036854775807) (ha : a < 9223372036854775807) (hb : b < 9223372036854775807) : Sp.subS a b = a - b := by
  unfold Sp.subS Sp.top Sp.low; rw [if_neg (by omega), if_neg (by omega), if_neg (by omega), if_neg (by omega)]
theorem addS_ge (a b : Int) (ha : 0 ≤ a) (ha' : a ≤ 9223372036854775807) (hb : 0 ≤ b) (hb' : b ≤ 9223372036854775807) : a ≤ Sp.addS a b ∧ b ≤ Sp.addS a b := by
  unfold Sp.addS Sp.top Sp.low; (repeat' split) <;> omega
set_option maxHeartbeats 1000000 in
theorem bounds_walk (a b : Int) (w : World) (hT : TabsIn w) (ha : -9223372036854775808 ≤ a) (ha' : a ≤ 9223372036854775807) (hb : -9223372036854775808 ≤ b) (hb' : b ≤ 9223372036854775807) :
    Calls Tryd.prog 8 #[.int .i64 a, .int .i64 b] w fun e w' => e = .returned (.bool true) ∧ Below w.heap.size w w' := by
  by_cases hin : (-4611686018427387904 ≤ a ∧ a < 4611686018427387904) ∧ (-4611686018427387904 ≤ b ∧ b < 4611686018427387904)
  · obtain ⟨⟨ha1, ha2⟩, hb1, hb2⟩ := hin
    have hat : (a != 9223372036854775807) = true := by simp; omega
    have hadd : ∀ W, Calls Tryd.prog 10 #[.int .i64 a, .int .i64 b] W fun e w' => e = .returned (.int .i64 (a + b)) ∧ w' = W := fun W => by
      have h := add_any a b W ha ha' hb hb'
      rwa [addS_in a b (by omega) (by omega) (by omega) (by omega)] at h
    have hsub : ∀ W, Calls Tryd.prog 12 #[.int .i64 a, .int .i64 b] W fun e w' => e = .returned (.int .i64 (a - b)) ∧ w' = W := fun W => by
      have h := sub_any a b W ha ha' hb hb'
      rwa [subS_in a b (by omega) (by omega) (by omega) (by omega)] at h
    have HA : Hid (∀ W, Calls Tryd.prog 10 #[.int .i64 a, .int .i64 b] W fun e w' => e = .returned (.int .i64 (a + b)) ∧ w' = W) := hadd
    have HS : Hid (∀ W, Calls Tryd.prog 12 #[.int .i64 a, .int .i64 b] W fun e w' => e = .returned (.int .i64 (a - b)) ∧ w' = W) := hsub
    clear hadd hsub
    go_enter Tryd.func8, Tryd.ntmps8
    go_wp2_with fail
    refine (known_any _ hT).mono ?_
    rintro e w1 ⟨rfl, hb1'⟩
    go_wp2_with fail
    refine (add_top a _ ha ha').mono ?_
    rintro e w2 ⟨rfl, rfl⟩
    go_wp2_with fail
    refine (sub_top a _ ha ha').mono ?_
    rintro e w3 ⟨rfl, rfl⟩
    go_wp2_with fail
    refine (sub_of_top a _ ha (by omega)).mono ?_
    rintro e w4 ⟨rfl, rfl⟩
    go_wp2_with fail
    refine (HA.out _).mono ?_
    rintro e w5 ⟨rfl, rfl⟩
    go_wp2_with fail
    refine (HS.out _).mono ?_
    rintro e w6 ⟨rfl, rfl⟩
    go_wp2_with fail
    go_ret
    exact ⟨by simp, hb1'⟩
  · have hge : 0 ≤ a → 0 ≤ b → a ≤ Sp.addS a b ∧ b ≤ Sp.addS a b := fun h h2 => addS_ge a b h ha' h2 hb'
    by_cases hat : a = 9223372036854775807
    · subst hat
      go_enter Tryd.func8, Tryd.ntmps8
      go_wp2_with fail
      refine (known_any _ hT).mono ?_
      rintro e w1 ⟨rfl, hb1'⟩
      go_wp2_with fail
      refine (add_top _ _ ha ha').mono ?_
      rintro e w2 ⟨rfl, rfl⟩
      go_wp2_with fail
      refine (sub_top _ _ ha ha').mono ?_
      rintro e w3 ⟨rfl, rfl⟩
      go_wp2_with fail
      refine (add_any _ _ _ ha ha' hb hb').mono ?_
      rintro e w3 ⟨rfl, rfl⟩
      go_wp2_with fail
      all_goals go_ret
      all_goals exact ⟨by simp, hb1'⟩
    · have hat2 : (a != 9223372036854775807) = true := by simpa using hat
      have hat3 : a < 9223372036854775807 := by omega
      clear hat
      by_cases h0 : 0 ≤ a ∧ 0 ≤ b
      · obtain ⟨h0a, h0b⟩ := h0
        obtain ⟨g1, g2⟩ := hge h0a h0b
        clear hge
        go_enter Tryd.func8, Tryd.ntmps8
        go_wp2_with fail
        refine (known_any _ hT).mono ?_
        rintro e w1 ⟨rfl, hb1'⟩
        go_wp2_with fail
        refine (add_top _ _ ha ha').mono ?_
        rintro e w2 ⟨rfl, rfl⟩
        go_wp2_with fail
        refine (sub_top _ _ ha ha').mono ?_
        rintro e w3 ⟨rfl, rfl⟩
        go_wp2_with fail
        refine (sub_of_top a _ ha hat3).mono ?_
        rintro e w4 ⟨rfl, rfl⟩
        go_wp2_with fail
        refine (add_any _ _ _ ha ha' hb hb').mono ?_
        rintro e w3 ⟨rfl, rfl⟩
        go_wp2_with fail
        all_goals go_ret
        all_goals exact ⟨by simp, hb1'⟩
      · clear hge
        go_enter Tryd.func8, Tryd.ntmps8
        go_wp2_with fail
        refine (known_any _ hT).mono ?_
        rintro e w1 ⟨rfl, hb1'⟩
        go_wp2_with fail
        refine (add_top _ _ ha ha').mono ?_
        rintro e w2 ⟨rfl, rfl⟩
        go_wp2_with fail
        refine (sub_top _ _ ha ha').mono ?_
        rintro e w3 ⟨rfl, rfl⟩
        go_wp2_with fail
        refine (sub_of_top a _ ha hat3).mono ?_
        rintro e w4 ⟨rfl, rfl⟩
        go_wp2_with fail
        refine (add_any _ _ _ ha ha' hb hb').mono ?_
        rintro e w3 ⟨rfl, rfl⟩
        go_wp2_with fail
        all_goals go_ret
        all_goals exact ⟨by simp, hb1'⟩
end Go.Proofs.YtlnfapkpehhafaaDoor
