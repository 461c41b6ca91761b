/- Contracts of package kern's clocks, and of what it hands out. -/
import Derived.Test.YtgienkdfodjoiaaGreatK0
import Derived.Deep.Light
namespace Go.Proofs.YtgienkdfodjoiaaGreat
open Go.RowKit Go.Shelf
def addS (a b : Int) : Int :=
  if a = 9223372036854775807 ∨ b = 9223372036854775807 then 9223372036854775807
  else if 0 < b ∧ 9223372036854775807 - b < a then 9223372036854775807
  else if b < 0 ∧ a < -9223372036854775808 - b then -9223372036854775808
  else a + b
theorem addS_rng {a b : Int} (ha : -9223372036854775808 ≤ a) (ha' : a ≤ 9223372036854775807) (hb : -9223372036854775808 ≤ b) (hb' : b ≤ 9223372036854775807) : -9223372036854775808 ≤ addS a b ∧ addS a b ≤ 9223372036854775807 := by
  unfold addS
  repeat' split
  all_goals omega
set_option maxHeartbeats 1000000 in
theorem add_any (a b : Int) (w : World) (ha : -9223372036854775808 ≤ a) (ha' : a ≤ 9223372036854775807) (hb : -9223372036854775808 ≤ b) (hb' : b ≤ 9223372036854775807) :
    Calls Tryz.prog 79 #[.int .i64 a, .int .i64 b] w fun e w' => e = .returned (.int .i64 (addS a b)) ∧ w' = w := by
  go_enter Tryz.func79, Tryz.ntmps79
  go_wp2
  all_goals go_ret
  all_goals refine ⟨ret_int ?_, rfl⟩
  all_goals go_light
  all_goals (try simp only [beq_iff_eq, beq_eq_false_iff_ne, ne_eq] at *)
  all_goals unfold addS
  all_goals (repeat' split) <;> omega
def kp (K : Kst) : Value := .pointer (some ⟨K.S.bt, 0, none⟩)
set_option maxRecDepth 100000 in
set_option maxHeartbeats 1000000 in
theorem mono_any {K : Kst} {w : World} (h : Ks w K) : Calls Tryz.prog 37 #[kp K] w fun e w' => e = .returned (.int .i64 K.mono) ∧ w' = w := by
  have c := h.c12
  unfold kp
  go_enter Tryz.func37, Tryz.ntmps37
  clear h
  go_wp2_with fail
  go_ret
  exact ⟨rfl, rfl⟩
set_option maxRecDepth 100000 in
set_option maxHeartbeats 1000000 in
theorem wall_any {K : Kst} {w : World} (h : Ks w K) : Calls Tryz.prog 38 #[kp K] w fun e w' => e = .returned (.int .i64 K.wall) ∧ w' = w := by
  have c := h.c13
  unfold kp
  go_enter Tryz.func38, Tryz.ntmps38
  clear h
  go_wp2_with fail
  go_ret
  exact ⟨rfl, rfl⟩
set_option maxRecDepth 100000 in
set_option maxHeartbeats 1000000 in
theorem groups_any (K : Kst) (w : World) : Calls Tryz.prog 10 #[kp K] w fun e w' => e = .returned (.pointer (some ⟨K.S.bt, 3, none⟩)) ∧ w' = w := by
  unfold kp
  go_enter Tryz.func10, Tryz.ntmps10
  go_wp2_with fail
  go_ret
  exact ⟨rfl, rfl⟩
set_option maxRecDepth 100000 in
set_option maxHeartbeats 1000000 in
theorem procs_any (K : Kst) (w : World) : Calls Tryz.prog 34 #[kp K] w fun e w' => e = .returned (.pointer (some ⟨K.S.bt, 0, none⟩)) ∧ w' = w := by
  unfold kp
  go_enter Tryz.func34, Tryz.ntmps34
  go_wp2_with fail
  go_ret
  exact ⟨rfl, rfl⟩
set_option maxRecDepth 100000 in
set_option maxHeartbeats 1000000 in
theorem jump_any {K : Kst} {w : World} (h : Ks w K) (x : Int) : Calls Tryz.prog 33 #[kp K, .int .i64 x] w fun e w' => e = .returned (.tuple #[]) ∧ Kg K w { K with wall := x } w' 0 := by
  have c := h.c13
  have f := h.t.fz 13
  have fin := hidK (h.clock 13 (.inr rfl) x)
  unfold kp
  go_enter Tryz.func33, Tryz.ntmps33
  clear h
  go_wp2_with fail
  refine bodyPost_end (v := .tuple #[]) (by simp [results, Tryz.results33, go_sem]) rfl ?_
  exact ⟨rfl, fin.out⟩
set_option maxRecDepth 100000 in
set_option maxHeartbeats 1000000 in
theorem tick_no {K : Kst} {w : World} (x : Int) (hx : x < 0) : Calls Tryz.prog 31 #[kp K, .int .i64 x] w fun e w' => e = .returned (.int .i64 10) ∧ w' = w := by
  unfold kp
  go_enter Tryz.func31, Tryz.ntmps31
  go_wp2_with fail
  go_ret
  exact ⟨rfl, rfl⟩
/-- The clocks are numbers. -/
structure Kc (K : Kst) : Prop where
  m0 : -9223372036854775808 ≤ K.mono
  m1 : K.mono ≤ 9223372036854775807
  w0 : -9223372036854775808 ≤ K.wall
  w1 : K.wall ≤ 9223372036854775807
set_option maxRecDepth 100000 in
set_option maxHeartbeats 1000000 in
theorem tick_any {K : Kst} {w : World} (h : Ks w K) (kc : Kc K) (x : Int) (hx : 0 ≤ x) (hx' : x ≤ 9223372036854775807) : Calls Tryz.prog 31 #[kp K, .int .i64 x] w fun e w' => e = .returned (.int .i64 0) ∧ Kg K w { K with mono := addS K.mono x, wall := addS K.wall x } w' 0 := by
  have h1 := h.clock 12 (.inl rfl) (addS K.mono x)
  have h2 := h1.k.clock 13 (.inr rfl) (addS K.wall x)
  have fin := hidK (h1.trans h2)
  have A1 := add_any K.mono x w kc.m0 kc.m1 (by omega) hx'
  have A2 := fun W => add_any K.wall x W kc.w0 kc.w1 (by omega) hx'
  have A2H := hidK A2
  have c12 := h.c12
  have f12 := h.t.fz 12
  obtain ⟨W1, hW1⟩ : ∃ W1, w.setCell ⟨K.S.bt, 12, none⟩ (.int .i64 (addS K.mono x)) = W1 := ⟨_, rfl⟩
  have c13 : W1.cell? ⟨K.S.bt, 13, none⟩ = some (.int .i64 K.wall) := by rw [← hW1]; exact h1.k.c13
  have f13 : W1.frozen? ⟨K.S.bt, 13, none⟩ = false := by rw [← hW1]; exact h1.k.t.fz 13
  have hd : decide (x < 0) = false := by simp; omega
  dsimp only at fin
  rw [hW1] at fin
  obtain ⟨m', hm'⟩ : ∃ m', addS K.mono x = m' := ⟨_, rfl⟩
  obtain ⟨l', hl'⟩ : ∃ l', addS K.wall x = l' := ⟨_, rfl⟩
  rw [hm'] at A1 hW1 fin
  rw [hl'] at A2H fin
  rw [hm', hl']
  obtain ⟨mo, hmo⟩ : ∃ mo, K.mono = mo := ⟨_, rfl⟩
  obtain ⟨wa, hwa⟩ : ∃ wa, K.wall = wa := ⟨_, rfl⟩
  rw [hmo] at A1 c12
  rw [hwa] at A2H c13
  clear h1 h2 A2 hm' hl' hmo hwa h kc
  unfold kp
  go_enter Tryz.func31, Tryz.ntmps31
  go_wp2_with fail
  refine A1.mono ?_
  rintro e w1 ⟨rfl, rfl⟩
  have A2' := A2H.out W1
  go_wp2_with (rw [hW1])
  refine A2'.mono ?_
  rintro e w2 ⟨rfl, rfl⟩
  go_wp2_with fail
  go_ret
  exact ⟨rfl, fin.out⟩
end Go.Proofs.YtgienkdfodjoiaaGreat
