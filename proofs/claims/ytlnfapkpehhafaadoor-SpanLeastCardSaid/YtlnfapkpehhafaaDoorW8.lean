/- The contract of package span's Print; the law's own 'known' answers true. -/
import Derived.Test.YtlnfapkpehhafaaDoorW7
namespace Go.Proofs.YtlnfapkpehhafaaDoor
open Go.RowKit
theorem partsOf_len (T : List (List UInt8 × Int)) (hT : ∀ x ∈ T, 1 ≤ x.2 ∧ x.2 ≤ 604800 ∧ x.1.length ≤ 3) : ∀ n : Int, 0 ≤ n → n ≤ 9223372036854775807 → (Sp.partsOf T n).length ≤ T.length ∧ ∀ x ∈ Sp.partsOf T n, x.length ≤ 30 := by
  induction T with
  | nil => intro n _ _; simp [Sp.partsOf]
  | cons x r ih =>
    intro n h0 h1
    obtain ⟨u, k⟩ := x
    have hx := hT (u, k) (by simp)
    simp only at hx
    have hm : 0 ≤ n % k := Int.emod_nonneg _ (by omega)
    have hm' : n % k < k := Int.emod_lt_of_pos _ (by omega)
    have hr := ih (fun y hy => hT y (by simp [hy])) (n % k) hm (by omega)
    have hd : 0 ≤ n / k := Int.ediv_nonneg h0 (by omega)
    have hd' : n / k ≤ n := Int.ediv_le_self _ h0
    have hi := Lib.itoa_length_le (n / k) (by omega) (by omega)
    unfold Sp.partsOf
    split
    · refine ⟨by simp only [List.length_append, List.length_cons, List.length_nil]; omega, fun y hy => ?_⟩
      rw [List.mem_append, List.mem_singleton] at hy
      rcases hy with rfl | hy
      · rw [List.length_append]; omega
      · exact hr.2 y hy
    · refine ⟨by simp only [List.nil_append, List.length_cons]; omega, fun y hy => hr.2 y (by simpa using hy)⟩
theorem printP_len (n : Int) (h0 : 0 ≤ n) (h1 : n ≤ 9223372036854775807) : (Sp.printP n).length ≤ 200 := by
  have h := partsOf_len Sp.writT (by decide) n h0 h1
  have h2 := lens_le _ h.2
  have h3 : Sp.writT.length = 5 := rfl
  unfold Sp.printP
  split
  · decide
  · split
    · decide
    · omega
set_option maxHeartbeats 400000 in
theorem print_any (n : Int) (w : World) (h0 : -9223372036854775808 ≤ n) (h1 : n ≤ 9223372036854775807) (hT : TabsIn w) :
    Calls Tryd.prog 14 #[.int .i64 n] w fun e w' => e = .returned (.string ⟨(Sp.print n).toArray⟩) ∧ Below w.heap.size w w' := by
  by_cases hn : 0 ≤ n
  · have he : Sp.print n = Sp.printP n := by unfold Sp.print Sp.low; rw [if_neg (by omega), if_neg (by omega)]
    rw [he]
    exact printP_any n w hn h1 hT
  by_cases hl : n = -9223372036854775808
  · subst hl
    go_enter Tryd.func14, Tryd.ntmps14
    go_wp2_with fail
    go_ret
    exact ⟨rfl, Below.refl _ _⟩
  · have he : Hid (Sp.print n = 45 :: Sp.printP (-n)) := by show _ = _; unfold Sp.print Sp.low; rw [if_neg (by omega), if_pos (by omega)]
    have b1 : (n == 9223372036854775807) = false := by simp; omega
    have b2 : (n == -9223372036854775808) = false := by simpa using hl
    have hn' : n < 0 := by omega
    have h0' : -9223372036854775807 ≤ n := by omega
    have hlen := printP_len (-n) (by omega) (by omega)
    clear hl hn
    go_enter Tryd.func14, Tryd.ntmps14
    go_wp2_with fail
    refine (printP_any (-n) _ (by omega) (by omega) hT).mono ?_
    rintro e w2 ⟨rfl, hb⟩
    have hadd : ∀ W, (Op.stringOp .add ⟨#[45]⟩ ⟨(Sp.printP (-n)).toArray⟩).run Tryd.prog W = .ok (.string ⟨(45 :: Sp.printP (-n)).toArray⟩) W := fun W => run_string_add_lists W [45] _ (by simp) (by omega)
    go_wp2_with fail
    go_ret
    refine ⟨?_, hb⟩
    rw [he.out]
    rfl
theorem known_1 (w : World) (hT : TabsIn w) : Calls Tryd.prog 16 #[.string ⟨#[49, 104, 32, 51, 48, 109, 105, 110]⟩] w fun e w' => e = .returned (.tuple #[.int .i64 5400, .int .i64 0]) ∧ Below w.heap.size w w' := by
  have h := parse_l [49, 104, 32, 51, 48, 109, 105, 110] w (by decide) hT.rd (Nat.lt_of_lt_of_le (show 1 < 8 by decide) hT.sz)
  have e1 : Sp.parseV [49, 104, 32, 51, 48, 109, 105, 110] = 5400 := by unfold Sp.parseV; rw [Sp.known_a]; rfl
  have e2 : Sp.parseE [49, 104, 32, 51, 48, 109, 105, 110] = 0 := by unfold Sp.parseE; rw [Sp.known_a]; rfl
  rw [e1, e2] at h
  exact h
theorem known_2 (w : World) (hT : TabsIn w) : Calls Tryd.prog 16 #[.string ⟨#[53, 32, 54]⟩] w fun e w' => e = .returned (.tuple #[.int .i64 0, .int .i64 10]) ∧ Below w.heap.size w w' := by
  have h := parse_l [53, 32, 54] w (by decide) hT.rd (Nat.lt_of_lt_of_le (show 1 < 8 by decide) hT.sz)
  have e1 : Sp.parseV [53, 32, 54] = 0 := by unfold Sp.parseV; rw [Sp.known_b]; rfl
  have e2 : Sp.parseE [53, 32, 54] = 10 := by unfold Sp.parseE; rw [Sp.known_b]; rfl
  rw [e1, e2] at h
  exact h
theorem known_3 (w : World) (hT : TabsIn w) : Calls Tryd.prog 14 #[.int .i64 90061] w fun e w' => e = .returned (.string ⟨#[49, 100, 32, 49, 104, 32, 49, 109, 105, 110, 32, 49, 115]⟩) ∧ Below w.heap.size w w' := by
  have h := print_any 90061 w (by omega) (by omega) hT
  rw [Sp.known_c] at h
  exact h
theorem known_4 (w : World) : Calls Tryd.prog 10 #[.int .i64 9223372036854775807, .int .i64 (-1)] w fun e w' => e = .returned (.int .i64 9223372036854775807) ∧ w' = w :=
  add_any 9223372036854775807 (-1) w (by omega) (by omega) (by omega) (by omega)
set_option maxHeartbeats 400000 in
theorem known_any (w : World) (hT : TabsIn w) : Calls Tryd.prog 9 #[] w fun e w' => e = .returned (.bool true) ∧ Below w.heap.size w w' := by
  go_enter Tryd.func9, Tryd.ntmps9
  go_wp2_with fail
  refine (known_1 _ hT).mono ?_
  rintro e w1 ⟨rfl, hb1⟩
  have hT1 := hT.below hb1
  go_wp2_with fail
  refine (known_2 _ hT1).mono ?_
  rintro e w2 ⟨rfl, hb2⟩
  have hT2 := hT1.below hb2
  go_wp2_with fail
  refine (known_3 _ hT2).mono ?_
  rintro e w3 ⟨rfl, hb3⟩
  go_wp2_with fail
  refine (known_4 _).mono ?_
  rintro e w4 ⟨rfl, rfl⟩
  go_wp2_with fail
  go_ret
  exact ⟨rfl, hb1.trans ((hb2.mono hb1.size).trans (hb3.mono (Nat.le_trans hb1.size hb2.size)))⟩
end Go.Proofs.YtlnfapkpehhafaaDoor
