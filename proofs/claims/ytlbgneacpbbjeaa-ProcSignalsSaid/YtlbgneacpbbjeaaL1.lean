/- The law ProcSignals. -/
import Derived.Test.YtlbgneacpbbjeaaLW
namespace Go.Proofs.Ytlbgneacpbbjeaa
open Go.RowKit Go.Shelf
def pS (a b : Bool) : Pr := ⟨2, 1, gB, false, 0, cB, a, b⟩
def pZ (a b : Bool) : Pr := ⟨2, 1, gB, true, -9, cB, a, b⟩
theorem kl_none {l : Ps} {k sig : Int} (h15 : ¬ sig = 15) (h9 : ¬ sig = 9) : klP l k sig = none := by
  unfold klP
  rw [if_neg h15, if_neg h9]
  split <;> rfl
theorem kl_e {l : Ps} {k sig : Int} (h15 : ¬ sig = 15) (h9 : ¬ sig = 9) : klE l k sig = 80 := by unfold klE; rw [kl_none h15 h9]
theorem kl_l {l : Ps} {k sig : Int} (h15 : ¬ sig = 15) (h9 : ¬ sig = 9) : klL l k sig = l := by unfold klL; rw [kl_none h15 h9]
set_option maxRecDepth 100000 in
set_option maxHeartbeats 4000000 in
theorem signals_00 (sig : Int) (w : World) (h0 : -9223372036854775808 ≤ sig) (h1 : sig ≤ 9223372036854775807) :
    Calls Try.prog 7 #[.bool false, .bool false, .int .i64 sig] w fun e w' => e = .returned (.bool true) ∧ Below w.heap.size w w' := by
  have hK := hidP (known_any w)
  go_enter Try.func7, Try.ntmps7
  go_wp2_with fail
  refine hK.out.mono ?_
  rintro e V ⟨rfl, hbV⟩
  have hN := hidP (new_n 10 V)
  go_wp2_with fail
  refine hN.out.mono ?_
  rintro e W1 ⟨bt, bm, rfl, T1'⟩
  have T1 := T1'.from hbV
  rw [show roomOf 10 = 10 from rfl] at T1
  have w1 : Wf 10 1 [] := Wf.new 10
  have S1 := hidP (spawn_n T1 w1 (by omega) 1 gB cB (by omega) (by omega) (s := ⟨2, 0, 2, [pS false false]⟩) rfl)
  clear T1 T1' hbV hK hN
  go_wp2_with fail
  refine S1.out.mono ?_
  rintro e W2 ⟨rfl, T2, _⟩
  have w2 : Wf 10 2 [pS false false] := w1.spawn 1 gB cB
  clear S1
  by_cases h15 : sig = 15
  · subst h15
    have S2 := hidP (sig_n T2 2 (by omega) (by omega) (a := false) (b := false) rfl rfl)
    clear T2
    go_wp2_with fail
    refine S2.out.mono ?_
    rintro e W3 ⟨rfl, T3, _⟩
    have w3 := w2
    have S3 := hidP (fork_n T3 w3 (by omega) 2 (by omega) (by omega) (s := ⟨3, 0, 3, [pS false false, ⟨3, 2, gB, false, 0, cB, false, false⟩]⟩) rfl)
    clear T3
    go_wp2_with fail
    refine S3.out.mono ?_
    rintro e W4 ⟨rfl, T4, _⟩
    have w4 : Wf 10 3 [pS false false, ⟨3, 2, gB, false, 0, cB, false, false⟩] := w3.fork 2
    have S4 := hidP (get_n T4 2 (by omega) (by omega) (p := pS false false) (b := true) rfl rfl)
    clear T4
    go_wp2_with fail
    refine S4.out.mono ?_
    rintro e W5 ⟨rfl, T5, _⟩
    have w5 := w4
    simp only [prV, pS, gB, cB]
    have U5 := T5.below ((Below.refl _ _).alloc (Nat.le_refl _) (.cells #[.int .i64 2, .int .i64 1, .string ⟨#[103]⟩, .bool false, .int .i64 0, .string ⟨#[99]⟩] 40))
    clear T5
    have T5 := U5
    clear U5
    have S5 := hidP (kill_n T5 w5 1 9 (by omega) (by omega) (e1 := 80) (l1 := [pS false false, ⟨3, 2, gB, false, 0, cB, false, false⟩]) rfl rfl)
    clear T5
    go_wp2_with fail
    refine S5.out.mono ?_
    rintro e W6 ⟨rfl, T6, _⟩
    have w6 := w5
    have S6 := hidP (exit_n T6 w6 (by omega) 2 (-9) (by omega) (by omega) (e1 := 0) (l1 := [pZ false false, ⟨3, 1, gB, false, 0, cB, false, false⟩]) rfl rfl)
    clear T6
    go_wp2_with fail
    refine S6.out.mono ?_
    rintro e W7 ⟨rfl, T7, _⟩
    have w7 : Wf 10 3 [pZ false false, ⟨3, 1, gB, false, 0, cB, false, false⟩] := by have h := w6.exit 2 (-9); rwa [show exL [pS false false, ⟨3, 2, gB, false, 0, cB, false, false⟩] 2 (-9) = [pZ false false, ⟨3, 1, gB, false, 0, cB, false, false⟩] from rfl] at h
    have S7 := hidP (kill_n T7 w7 2 15 (by omega) (by omega) (e1 := 80) (l1 := [pZ false false, ⟨3, 1, gB, false, 0, cB, false, false⟩]) rfl rfl)
    clear T7
    go_wp2_with fail
    refine S7.out.mono ?_
    rintro e W8 ⟨rfl, T8, _⟩
    have w8 := w7
    have hb := hidP T8.be
    clear T8
    go_wp2_with fail
    go_ret
    exact ⟨rfl, hb.out⟩
  · by_cases h9 : sig = 9
    · subst h9
      have S2 := hidP (sig_n T2 2 (by omega) (by omega) (a := false) (b := false) rfl rfl)
      clear T2
      go_wp2_with fail
      refine S2.out.mono ?_
      rintro e W3 ⟨rfl, T3, _⟩
      have w3 := w2
      have S3 := hidP (fork_n T3 w3 (by omega) 2 (by omega) (by omega) (s := ⟨3, 0, 3, [pS false false, ⟨3, 2, gB, false, 0, cB, false, false⟩]⟩) rfl)
      clear T3
      go_wp2_with fail
      refine S3.out.mono ?_
      rintro e W4 ⟨rfl, T4, _⟩
      have w4 : Wf 10 3 [pS false false, ⟨3, 2, gB, false, 0, cB, false, false⟩] := w3.fork 2
      have S4 := hidP (get_n T4 2 (by omega) (by omega) (p := pS false false) (b := true) rfl rfl)
      clear T4
      go_wp2_with fail
      refine S4.out.mono ?_
      rintro e W5 ⟨rfl, T5, _⟩
      have w5 := w4
      simp only [prV, pS, gB, cB]
      have U5 := T5.below ((Below.refl _ _).alloc (Nat.le_refl _) (.cells #[.int .i64 2, .int .i64 1, .string ⟨#[103]⟩, .bool false, .int .i64 0, .string ⟨#[99]⟩] 40))
      clear T5
      have T5 := U5
      clear U5
      have S5 := hidP (kill_n T5 w5 1 9 (by omega) (by omega) (e1 := 80) (l1 := [pS false false, ⟨3, 2, gB, false, 0, cB, false, false⟩]) rfl rfl)
      clear T5
      go_wp2_with fail
      refine S5.out.mono ?_
      rintro e W6 ⟨rfl, T6, _⟩
      have w6 := w5
      have S6 := hidP (exit_n T6 w6 (by omega) 2 (-9) (by omega) (by omega) (e1 := 0) (l1 := [pZ false false, ⟨3, 1, gB, false, 0, cB, false, false⟩]) rfl rfl)
      clear T6
      go_wp2_with fail
      refine S6.out.mono ?_
      rintro e W7 ⟨rfl, T7, _⟩
      have w7 : Wf 10 3 [pZ false false, ⟨3, 1, gB, false, 0, cB, false, false⟩] := by have h := w6.exit 2 (-9); rwa [show exL [pS false false, ⟨3, 2, gB, false, 0, cB, false, false⟩] 2 (-9) = [pZ false false, ⟨3, 1, gB, false, 0, cB, false, false⟩] from rfl] at h
      have S7 := hidP (kill_n T7 w7 2 15 (by omega) (by omega) (e1 := 80) (l1 := [pZ false false, ⟨3, 1, gB, false, 0, cB, false, false⟩]) rfl rfl)
      clear T7
      go_wp2_with fail
      refine S7.out.mono ?_
      rintro e W8 ⟨rfl, T8, _⟩
      have w8 := w7
      have hb := hidP T8.be
      clear T8
      go_wp2_with fail
      go_ret
      exact ⟨rfl, hb.out⟩
    · have b15 : (sig == 15) = false := by simpa using h15
      have b9 : (sig == 9) = false := by simpa using h9
      have d15 : (sig != 15) = true := by simpa using h15
      have d9 : (sig != 9) = true := by simpa using h9
      have S2 := hidP (kill_n T2 w2 2 sig (by omega) (by omega) (e1 := 80) (l1 := [pS false false]) (kl_e h15 h9) (kl_l h15 h9))
      clear T2
      go_wp2_with fail
      refine S2.out.mono ?_
      rintro e W3 ⟨rfl, T3, _⟩
      have w3 := w2
      have S3 := hidP (sig_n T3 2 (by omega) (by omega) (a := false) (b := false) rfl rfl)
      clear T3
      go_wp2_with fail
      refine S3.out.mono ?_
      rintro e W4 ⟨rfl, T4, _⟩
      have w4 := w3
      have S4 := hidP (fork_n T4 w4 (by omega) 2 (by omega) (by omega) (s := ⟨3, 0, 3, [pS false false, ⟨3, 2, gB, false, 0, cB, false, false⟩]⟩) rfl)
      clear T4
      go_wp2_with fail
      refine S4.out.mono ?_
      rintro e W5 ⟨rfl, T5, _⟩
      have w5 : Wf 10 3 [pS false false, ⟨3, 2, gB, false, 0, cB, false, false⟩] := w4.fork 2
      have S5 := hidP (get_n T5 2 (by omega) (by omega) (p := pS false false) (b := true) rfl rfl)
      clear T5
      go_wp2_with fail
      refine S5.out.mono ?_
      rintro e W6 ⟨rfl, T6, _⟩
      have w6 := w5
      simp only [prV, pS, gB, cB]
      have U6 := T6.below ((Below.refl _ _).alloc (Nat.le_refl _) (.cells #[.int .i64 2, .int .i64 1, .string ⟨#[103]⟩, .bool false, .int .i64 0, .string ⟨#[99]⟩] 40))
      clear T6
      have T6 := U6
      clear U6
      have S6 := hidP (kill_n T6 w6 1 9 (by omega) (by omega) (e1 := 80) (l1 := [pS false false, ⟨3, 2, gB, false, 0, cB, false, false⟩]) rfl rfl)
      clear T6
      go_wp2_with fail
      refine S6.out.mono ?_
      rintro e W7 ⟨rfl, T7, _⟩
      have w7 := w6
      have S7 := hidP (exit_n T7 w7 (by omega) 2 (-9) (by omega) (by omega) (e1 := 0) (l1 := [pZ false false, ⟨3, 1, gB, false, 0, cB, false, false⟩]) rfl rfl)
      clear T7
      go_wp2_with fail
      refine S7.out.mono ?_
      rintro e W8 ⟨rfl, T8, _⟩
      have w8 : Wf 10 3 [pZ false false, ⟨3, 1, gB, false, 0, cB, false, false⟩] := by have h := w7.exit 2 (-9); rwa [show exL [pS false false, ⟨3, 2, gB, false, 0, cB, false, false⟩] 2 (-9) = [pZ false false, ⟨3, 1, gB, false, 0, cB, false, false⟩] from rfl] at h
      have S8 := hidP (kill_n T8 w8 2 15 (by omega) (by omega) (e1 := 80) (l1 := [pZ false false, ⟨3, 1, gB, false, 0, cB, false, false⟩]) rfl rfl)
      clear T8
      go_wp2_with fail
      refine S8.out.mono ?_
      rintro e W9 ⟨rfl, T9, _⟩
      have w9 := w8
      have hb := hidP T9.be
      clear T9
      go_wp2_with fail
      go_ret
      exact ⟨rfl, hb.out⟩
set_option maxRecDepth 100000 in
set_option maxHeartbeats 4000000 in
theorem signals_01 (sig : Int) (w : World) (h0 : -9223372036854775808 ≤ sig) (h1 : sig ≤ 9223372036854775807) :
    Calls Try.prog 7 #[.bool false, .bool true, .int .i64 sig] w fun e w' => e = .returned (.bool true) ∧ Below w.heap.size w w' := by
  have hK := hidP (known_any w)
  go_enter Try.func7, Try.ntmps7
  go_wp2_with fail
  refine hK.out.mono ?_
  rintro e V ⟨rfl, hbV⟩
  have hN := hidP (new_n 10 V)
  go_wp2_with fail
  refine hN.out.mono ?_
  rintro e W1 ⟨bt, bm, rfl, T1'⟩
  have T1 := T1'.from hbV
  rw [show roomOf 10 = 10 from rfl] at T1
  have w1 : Wf 10 1 [] := Wf.new 10
  have S1 := hidP (spawn_n T1 w1 (by omega) 1 gB cB (by omega) (by omega) (s := ⟨2, 0, 2, [pS false false]⟩) rfl)
  clear T1 T1' hbV hK hN
  go_wp2_with fail
  refine S1.out.mono ?_
  rintro e W2 ⟨rfl, T2, _⟩
  have w2 : Wf 10 2 [pS false false] := w1.spawn 1 gB cB
  clear S1
  by_cases h15 : sig = 15
  · subst h15
    have S2 := hidP (kill_n T2 w2 2 9 (by omega) (by omega) (e1 := 0) (l1 := [pS false true]) rfl rfl)
    clear T2
    go_wp2_with fail
    refine S2.out.mono ?_
    rintro e W3 ⟨rfl, T3, _⟩
    have w3 : Wf 10 2 [pS false true] := w2.kill 2 9
    have S3 := hidP (sig_n T3 2 (by omega) (by omega) (a := false) (b := true) rfl rfl)
    clear T3
    go_wp2_with fail
    refine S3.out.mono ?_
    rintro e W4 ⟨rfl, T4, _⟩
    have w4 := w3
    have S4 := hidP (fork_n T4 w4 (by omega) 2 (by omega) (by omega) (s := ⟨0, 80, 2, [pS false true]⟩) rfl)
    clear T4
    go_wp2_with fail
    refine S4.out.mono ?_
    rintro e W5 ⟨rfl, T5, _⟩
    have w5 := w4
    have S5 := hidP (get_n T5 2 (by omega) (by omega) (p := pS false true) (b := true) rfl rfl)
    clear T5
    go_wp2_with fail
    refine S5.out.mono ?_
    rintro e W6 ⟨rfl, T6, _⟩
    have w6 := w5
    simp only [prV, pS, gB, cB]
    have U6 := T6.below ((Below.refl _ _).alloc (Nat.le_refl _) (.cells #[.int .i64 2, .int .i64 1, .string ⟨#[103]⟩, .bool false, .int .i64 0, .string ⟨#[99]⟩] 40))
    clear T6
    have T6 := U6
    clear U6
    have S6 := hidP (kill_n T6 w6 1 9 (by omega) (by omega) (e1 := 80) (l1 := [pS false true]) rfl rfl)
    clear T6
    go_wp2_with fail
    refine S6.out.mono ?_
    rintro e W7 ⟨rfl, T7, _⟩
    have w7 := w6
    have S7 := hidP (exit_n T7 w7 (by omega) 2 (-9) (by omega) (by omega) (e1 := 0) (l1 := [pZ false true]) rfl rfl)
    clear T7
    go_wp2_with fail
    refine S7.out.mono ?_
    rintro e W8 ⟨rfl, T8, _⟩
    have w8 : Wf 10 2 [pZ false true] := by have h := w7.exit 2 (-9); rwa [show exL [pS false true] 2 (-9) = [pZ false true] from rfl] at h
    have S8 := hidP (kill_n T8 w8 2 15 (by omega) (by omega) (e1 := 80) (l1 := [pZ false true]) rfl rfl)
    clear T8
    go_wp2_with fail
    refine S8.out.mono ?_
    rintro e W9 ⟨rfl, T9, _⟩
    have w9 := w8
    have hb := hidP T9.be
    clear T9
    go_wp2_with fail
    go_ret
    exact ⟨rfl, hb.out⟩
  · by_cases h9 : sig = 9
    · subst h9
      have S2 := hidP (kill_n T2 w2 2 9 (by omega) (by omega) (e1 := 0) (l1 := [pS false true]) rfl rfl)
      clear T2
      go_wp2_with fail
      refine S2.out.mono ?_
      rintro e W3 ⟨rfl, T3, _⟩
      have w3 : Wf 10 2 [pS false true] := w2.kill 2 9
      have S3 := hidP (sig_n T3 2 (by omega) (by omega) (a := false) (b := true) rfl rfl)
      clear T3
      go_wp2_with fail
      refine S3.out.mono ?_
      rintro e W4 ⟨rfl, T4, _⟩
      have w4 := w3
      have S4 := hidP (fork_n T4 w4 (by omega) 2 (by omega) (by omega) (s := ⟨0, 80, 2, [pS false true]⟩) rfl)
      clear T4
      go_wp2_with fail
      refine S4.out.mono ?_
      rintro e W5 ⟨rfl, T5, _⟩
      have w5 := w4
      have S5 := hidP (get_n T5 2 (by omega) (by omega) (p := pS false true) (b := true) rfl rfl)
      clear T5
      go_wp2_with fail
      refine S5.out.mono ?_
      rintro e W6 ⟨rfl, T6, _⟩
      have w6 := w5
      simp only [prV, pS, gB, cB]
      have U6 := T6.below ((Below.refl _ _).alloc (Nat.le_refl _) (.cells #[.int .i64 2, .int .i64 1, .string ⟨#[103]⟩, .bool false, .int .i64 0, .string ⟨#[99]⟩] 40))
      clear T6
      have T6 := U6
      clear U6
      have S6 := hidP (kill_n T6 w6 1 9 (by omega) (by omega) (e1 := 80) (l1 := [pS false true]) rfl rfl)
      clear T6
      go_wp2_with fail
      refine S6.out.mono ?_
      rintro e W7 ⟨rfl, T7, _⟩
      have w7 := w6
      have S7 := hidP (exit_n T7 w7 (by omega) 2 (-9) (by omega) (by omega) (e1 := 0) (l1 := [pZ false true]) rfl rfl)
      clear T7
      go_wp2_with fail
      refine S7.out.mono ?_
      rintro e W8 ⟨rfl, T8, _⟩
      have w8 : Wf 10 2 [pZ false true] := by have h := w7.exit 2 (-9); rwa [show exL [pS false true] 2 (-9) = [pZ false true] from rfl] at h
      have S8 := hidP (kill_n T8 w8 2 15 (by omega) (by omega) (e1 := 80) (l1 := [pZ false true]) rfl rfl)
      clear T8
      go_wp2_with fail
      refine S8.out.mono ?_
      rintro e W9 ⟨rfl, T9, _⟩
      have w9 := w8
      have hb := hidP T9.be
      clear T9
      go_wp2_with fail
      go_ret
      exact ⟨rfl, hb.out⟩
    · have b15 : (sig == 15) = false := by simpa using h15
      have b9 : (sig == 9) = false := by simpa using h9
      have d15 : (sig != 15) = true := by simpa using h15
      have d9 : (sig != 9) = true := by simpa using h9
      have S2 := hidP (kill_n T2 w2 2 9 (by omega) (by omega) (e1 := 0) (l1 := [pS false true]) rfl rfl)
      clear T2
      go_wp2_with fail
      refine S2.out.mono ?_
      rintro e W3 ⟨rfl, T3, _⟩
      have w3 : Wf 10 2 [pS false true] := w2.kill 2 9
      have S3 := hidP (kill_n T3 w3 2 sig (by omega) (by omega) (e1 := 80) (l1 := [pS false true]) (kl_e h15 h9) (kl_l h15 h9))
      clear T3
      go_wp2_with fail
      refine S3.out.mono ?_
      rintro e W4 ⟨rfl, T4, _⟩
      have w4 := w3
      have S4 := hidP (sig_n T4 2 (by omega) (by omega) (a := false) (b := true) rfl rfl)
      clear T4
      go_wp2_with fail
      refine S4.out.mono ?_
      rintro e W5 ⟨rfl, T5, _⟩
      have w5 := w4
      have S5 := hidP (fork_n T5 w5 (by omega) 2 (by omega) (by omega) (s := ⟨0, 80, 2, [pS false true]⟩) rfl)
      clear T5
      go_wp2_with fail
      refine S5.out.mono ?_
      rintro e W6 ⟨rfl, T6, _⟩
      have w6 := w5
      have S6 := hidP (get_n T6 2 (by omega) (by omega) (p := pS false true) (b := true) rfl rfl)
      clear T6
      go_wp2_with fail
      refine S6.out.mono ?_
      rintro e W7 ⟨rfl, T7, _⟩
      have w7 := w6
      simp only [prV, pS, gB, cB]
      have U7 := T7.below ((Below.refl _ _).alloc (Nat.le_refl _) (.cells #[.int .i64 2, .int .i64 1, .string ⟨#[103]⟩, .bool false, .int .i64 0, .string ⟨#[99]⟩] 40))
      clear T7
      have T7 := U7
      clear U7
      have S7 := hidP (kill_n T7 w7 1 9 (by omega) (by omega) (e1 := 80) (l1 := [pS false true]) rfl rfl)
      clear T7
      go_wp2_with fail
      refine S7.out.mono ?_
      rintro e W8 ⟨rfl, T8, _⟩
      have w8 := w7
      have S8 := hidP (exit_n T8 w8 (by omega) 2 (-9) (by omega) (by omega) (e1 := 0) (l1 := [pZ false true]) rfl rfl)
      clear T8
      go_wp2_with fail
      refine S8.out.mono ?_
      rintro e W9 ⟨rfl, T9, _⟩
      have w9 : Wf 10 2 [pZ false true] := by have h := w8.exit 2 (-9); rwa [show exL [pS false true] 2 (-9) = [pZ false true] from rfl] at h
      have S9 := hidP (kill_n T9 w9 2 15 (by omega) (by omega) (e1 := 80) (l1 := [pZ false true]) rfl rfl)
      clear T9
      go_wp2_with fail
      refine S9.out.mono ?_
      rintro e W10 ⟨rfl, T10, _⟩
      have w10 := w9
      have hb := hidP T10.be
      clear T10
      go_wp2_with fail
      go_ret
      exact ⟨rfl, hb.out⟩
set_option maxRecDepth 100000 in
set_option maxHeartbeats 4000000 in
theorem signals_10 (sig : Int) (w : World) (h0 : -9223372036854775808 ≤ sig) (h1 : sig ≤ 9223372036854775807) :
    Calls Try.prog 7 #[.bool true, .bool false, .int .i64 sig] w fun e w' => e = .returned (.bool true) ∧ Below w.heap.size w w' := by
  have hK := hidP (known_any w)
  go_enter Try.func7, Try.ntmps7
  go_wp2_with fail
  refine hK.out.mono ?_
  rintro e V ⟨rfl, hbV⟩
  have hN := hidP (new_n 10 V)
  go_wp2_with fail
  refine hN.out.mono ?_
  rintro e W1 ⟨bt, bm, rfl, T1'⟩
  have T1 := T1'.from hbV
  rw [show roomOf 10 = 10 from rfl] at T1
  have w1 : Wf 10 1 [] := Wf.new 10
  have S1 := hidP (spawn_n T1 w1 (by omega) 1 gB cB (by omega) (by omega) (s := ⟨2, 0, 2, [pS false false]⟩) rfl)
  clear T1 T1' hbV hK hN
  go_wp2_with fail
  refine S1.out.mono ?_
  rintro e W2 ⟨rfl, T2, _⟩
  have w2 : Wf 10 2 [pS false false] := w1.spawn 1 gB cB
  clear S1
  by_cases h15 : sig = 15
  · subst h15
    have S2 := hidP (kill_n T2 w2 2 15 (by omega) (by omega) (e1 := 0) (l1 := [pS true false]) rfl rfl)
    clear T2
    go_wp2_with fail
    refine S2.out.mono ?_
    rintro e W3 ⟨rfl, T3, _⟩
    have w3 : Wf 10 2 [pS true false] := w2.kill 2 15
    have S3 := hidP (sig_n T3 2 (by omega) (by omega) (a := true) (b := false) rfl rfl)
    clear T3
    go_wp2_with fail
    refine S3.out.mono ?_
    rintro e W4 ⟨rfl, T4, _⟩
    have w4 := w3
    have S4 := hidP (fork_n T4 w4 (by omega) 2 (by omega) (by omega) (s := ⟨3, 0, 3, [pS true false, ⟨3, 2, gB, false, 0, cB, false, false⟩]⟩) rfl)
    clear T4
    go_wp2_with fail
    refine S4.out.mono ?_
    rintro e W5 ⟨rfl, T5, _⟩
    have w5 : Wf 10 3 [pS true false, ⟨3, 2, gB, false, 0, cB, false, false⟩] := w4.fork 2
    have S5 := hidP (get_n T5 2 (by omega) (by omega) (p := pS true false) (b := true) rfl rfl)
    clear T5
    go_wp2_with fail
    refine S5.out.mono ?_
    rintro e W6 ⟨rfl, T6, _⟩
    have w6 := w5
    simp only [prV, pS, gB, cB]
    have U6 := T6.below ((Below.refl _ _).alloc (Nat.le_refl _) (.cells #[.int .i64 2, .int .i64 1, .string ⟨#[103]⟩, .bool false, .int .i64 0, .string ⟨#[99]⟩] 40))
    clear T6
    have T6 := U6
    clear U6
    have S6 := hidP (kill_n T6 w6 1 9 (by omega) (by omega) (e1 := 80) (l1 := [pS true false, ⟨3, 2, gB, false, 0, cB, false, false⟩]) rfl rfl)
    clear T6
    go_wp2_with fail
    refine S6.out.mono ?_
    rintro e W7 ⟨rfl, T7, _⟩
    have w7 := w6
    have S7 := hidP (exit_n T7 w7 (by omega) 2 (-9) (by omega) (by omega) (e1 := 0) (l1 := [pZ true false, ⟨3, 1, gB, false, 0, cB, false, false⟩]) rfl rfl)
    clear T7
    go_wp2_with fail
    refine S7.out.mono ?_
    rintro e W8 ⟨rfl, T8, _⟩
    have w8 : Wf 10 3 [pZ true false, ⟨3, 1, gB, false, 0, cB, false, false⟩] := by have h := w7.exit 2 (-9); rwa [show exL [pS true false, ⟨3, 2, gB, false, 0, cB, false, false⟩] 2 (-9) = [pZ true false, ⟨3, 1, gB, false, 0, cB, false, false⟩] from rfl] at h
    have S8 := hidP (kill_n T8 w8 2 15 (by omega) (by omega) (e1 := 80) (l1 := [pZ true false, ⟨3, 1, gB, false, 0, cB, false, false⟩]) rfl rfl)
    clear T8
    go_wp2_with fail
    refine S8.out.mono ?_
    rintro e W9 ⟨rfl, T9, _⟩
    have w9 := w8
    have hb := hidP T9.be
    clear T9
    go_wp2_with fail
    go_ret
    exact ⟨rfl, hb.out⟩
  · by_cases h9 : sig = 9
    · subst h9
      have S2 := hidP (kill_n T2 w2 2 15 (by omega) (by omega) (e1 := 0) (l1 := [pS true false]) rfl rfl)
      clear T2
      go_wp2_with fail
      refine S2.out.mono ?_
      rintro e W3 ⟨rfl, T3, _⟩
      have w3 : Wf 10 2 [pS true false] := w2.kill 2 15
      have S3 := hidP (sig_n T3 2 (by omega) (by omega) (a := true) (b := false) rfl rfl)
      clear T3
      go_wp2_with fail
      refine S3.out.mono ?_
      rintro e W4 ⟨rfl, T4, _⟩
      have w4 := w3
      have S4 := hidP (fork_n T4 w4 (by omega) 2 (by omega) (by omega) (s := ⟨3, 0, 3, [pS true false, ⟨3, 2, gB, false, 0, cB, false, false⟩]⟩) rfl)
      clear T4
      go_wp2_with fail
      refine S4.out.mono ?_
      rintro e W5 ⟨rfl, T5, _⟩
      have w5 : Wf 10 3 [pS true false, ⟨3, 2, gB, false, 0, cB, false, false⟩] := w4.fork 2
      have S5 := hidP (get_n T5 2 (by omega) (by omega) (p := pS true false) (b := true) rfl rfl)
      clear T5
      go_wp2_with fail
      refine S5.out.mono ?_
      rintro e W6 ⟨rfl, T6, _⟩
      have w6 := w5
      simp only [prV, pS, gB, cB]
      have U6 := T6.below ((Below.refl _ _).alloc (Nat.le_refl _) (.cells #[.int .i64 2, .int .i64 1, .string ⟨#[103]⟩, .bool false, .int .i64 0, .string ⟨#[99]⟩] 40))
      clear T6
      have T6 := U6
      clear U6
      have S6 := hidP (kill_n T6 w6 1 9 (by omega) (by omega) (e1 := 80) (l1 := [pS true false, ⟨3, 2, gB, false, 0, cB, false, false⟩]) rfl rfl)
      clear T6
      go_wp2_with fail
      refine S6.out.mono ?_
      rintro e W7 ⟨rfl, T7, _⟩
      have w7 := w6
      have S7 := hidP (exit_n T7 w7 (by omega) 2 (-9) (by omega) (by omega) (e1 := 0) (l1 := [pZ true false, ⟨3, 1, gB, false, 0, cB, false, false⟩]) rfl rfl)
      clear T7
      go_wp2_with fail
      refine S7.out.mono ?_
      rintro e W8 ⟨rfl, T8, _⟩
      have w8 : Wf 10 3 [pZ true false, ⟨3, 1, gB, false, 0, cB, false, false⟩] := by have h := w7.exit 2 (-9); rwa [show exL [pS true false, ⟨3, 2, gB, false, 0, cB, false, false⟩] 2 (-9) = [pZ true false, ⟨3, 1, gB, false, 0, cB, false, false⟩] from rfl] at h
      have S8 := hidP (kill_n T8 w8 2 15 (by omega) (by omega) (e1 := 80) (l1 := [pZ true false, ⟨3, 1, gB, false, 0, cB, false, false⟩]) rfl rfl)
      clear T8
      go_wp2_with fail
      refine S8.out.mono ?_
      rintro e W9 ⟨rfl, T9, _⟩
      have w9 := w8
      have hb := hidP T9.be
      clear T9
      go_wp2_with fail
      go_ret
      exact ⟨rfl, hb.out⟩
    · have b15 : (sig == 15) = false := by simpa using h15
      have b9 : (sig == 9) = false := by simpa using h9
      have d15 : (sig != 15) = true := by simpa using h15
      have d9 : (sig != 9) = true := by simpa using h9
      have S2 := hidP (kill_n T2 w2 2 15 (by omega) (by omega) (e1 := 0) (l1 := [pS true false]) rfl rfl)
      clear T2
      go_wp2_with fail
      refine S2.out.mono ?_
      rintro e W3 ⟨rfl, T3, _⟩
      have w3 : Wf 10 2 [pS true false] := w2.kill 2 15
      have S3 := hidP (kill_n T3 w3 2 sig (by omega) (by omega) (e1 := 80) (l1 := [pS true false]) (kl_e h15 h9) (kl_l h15 h9))
      clear T3
      go_wp2_with fail
      refine S3.out.mono ?_
      rintro e W4 ⟨rfl, T4, _⟩
      have w4 := w3
      have S4 := hidP (sig_n T4 2 (by omega) (by omega) (a := true) (b := false) rfl rfl)
      clear T4
      go_wp2_with fail
      refine S4.out.mono ?_
      rintro e W5 ⟨rfl, T5, _⟩
      have w5 := w4
      have S5 := hidP (fork_n T5 w5 (by omega) 2 (by omega) (by omega) (s := ⟨3, 0, 3, [pS true false, ⟨3, 2, gB, false, 0, cB, false, false⟩]⟩) rfl)
      clear T5
      go_wp2_with fail
      refine S5.out.mono ?_
      rintro e W6 ⟨rfl, T6, _⟩
      have w6 : Wf 10 3 [pS true false, ⟨3, 2, gB, false, 0, cB, false, false⟩] := w5.fork 2
      have S6 := hidP (get_n T6 2 (by omega) (by omega) (p := pS true false) (b := true) rfl rfl)
      clear T6
      go_wp2_with fail
      refine S6.out.mono ?_
      rintro e W7 ⟨rfl, T7, _⟩
      have w7 := w6
      simp only [prV, pS, gB, cB]
      have U7 := T7.below ((Below.refl _ _).alloc (Nat.le_refl _) (.cells #[.int .i64 2, .int .i64 1, .string ⟨#[103]⟩, .bool false, .int .i64 0, .string ⟨#[99]⟩] 40))
      clear T7
      have T7 := U7
      clear U7
      have S7 := hidP (kill_n T7 w7 1 9 (by omega) (by omega) (e1 := 80) (l1 := [pS true false, ⟨3, 2, gB, false, 0, cB, false, false⟩]) rfl rfl)
      clear T7
      go_wp2_with fail
      refine S7.out.mono ?_
      rintro e W8 ⟨rfl, T8, _⟩
      have w8 := w7
      have S8 := hidP (exit_n T8 w8 (by omega) 2 (-9) (by omega) (by omega) (e1 := 0) (l1 := [pZ true false, ⟨3, 1, gB, false, 0, cB, false, false⟩]) rfl rfl)
      clear T8
      go_wp2_with fail
      refine S8.out.mono ?_
      rintro e W9 ⟨rfl, T9, _⟩
      have w9 : Wf 10 3 [pZ true false, ⟨3, 1, gB, false, 0, cB, false, false⟩] := by have h := w8.exit 2 (-9); rwa [show exL [pS true false, ⟨3, 2, gB, false, 0, cB, false, false⟩] 2 (-9) = [pZ true false, ⟨3, 1, gB, false, 0, cB, false, false⟩] from rfl] at h
      have S9 := hidP (kill_n T9 w9 2 15 (by omega) (by omega) (e1 := 80) (l1 := [pZ true false, ⟨3, 1, gB, false, 0, cB, false, false⟩]) rfl rfl)
      clear T9
      go_wp2_with fail
      refine S9.out.mono ?_
      rintro e W10 ⟨rfl, T10, _⟩
      have w10 := w9
      have hb := hidP T10.be
      clear T10
      go_wp2_with fail
      go_ret
      exact ⟨rfl, hb.out⟩
set_option maxRecDepth 100000 in
set_option maxHeartbeats 4000000 in
theorem signals_11 (sig : Int) (w : World) (h0 : -9223372036854775808 ≤ sig) (h1 : sig ≤ 9223372036854775807) :
    Calls Try.prog 7 #[.bool true, .bool true, .int .i64 sig] w fun e w' => e = .returned (.bool true) ∧ Below w.heap.size w w' := by
  have hK := hidP (known_any w)
  go_enter Try.func7, Try.ntmps7
  go_wp2_with fail
  refine hK.out.mono ?_
  rintro e V ⟨rfl, hbV⟩
  have hN := hidP (new_n 10 V)
  go_wp2_with fail
  refine hN.out.mono ?_
  rintro e W1 ⟨bt, bm, rfl, T1'⟩
  have T1 := T1'.from hbV
  rw [show roomOf 10 = 10 from rfl] at T1
  have w1 : Wf 10 1 [] := Wf.new 10
  have S1 := hidP (spawn_n T1 w1 (by omega) 1 gB cB (by omega) (by omega) (s := ⟨2, 0, 2, [pS false false]⟩) rfl)
  clear T1 T1' hbV hK hN
  go_wp2_with fail
  refine S1.out.mono ?_
  rintro e W2 ⟨rfl, T2, _⟩
  have w2 : Wf 10 2 [pS false false] := w1.spawn 1 gB cB
  clear S1
  by_cases h15 : sig = 15
  · subst h15
    have S2 := hidP (kill_n T2 w2 2 15 (by omega) (by omega) (e1 := 0) (l1 := [pS true false]) rfl rfl)
    clear T2
    go_wp2_with fail
    refine S2.out.mono ?_
    rintro e W3 ⟨rfl, T3, _⟩
    have w3 : Wf 10 2 [pS true false] := w2.kill 2 15
    have S3 := hidP (kill_n T3 w3 2 9 (by omega) (by omega) (e1 := 0) (l1 := [pS true true]) rfl rfl)
    clear T3
    go_wp2_with fail
    refine S3.out.mono ?_
    rintro e W4 ⟨rfl, T4, _⟩
    have w4 : Wf 10 2 [pS true true] := w3.kill 2 9
    have S4 := hidP (sig_n T4 2 (by omega) (by omega) (a := true) (b := true) rfl rfl)
    clear T4
    go_wp2_with fail
    refine S4.out.mono ?_
    rintro e W5 ⟨rfl, T5, _⟩
    have w5 := w4
    have S5 := hidP (fork_n T5 w5 (by omega) 2 (by omega) (by omega) (s := ⟨0, 80, 2, [pS true true]⟩) rfl)
    clear T5
    go_wp2_with fail
    refine S5.out.mono ?_
    rintro e W6 ⟨rfl, T6, _⟩
    have w6 := w5
    have S6 := hidP (get_n T6 2 (by omega) (by omega) (p := pS true true) (b := true) rfl rfl)
    clear T6
    go_wp2_with fail
    refine S6.out.mono ?_
    rintro e W7 ⟨rfl, T7, _⟩
    have w7 := w6
    simp only [prV, pS, gB, cB]
    have U7 := T7.below ((Below.refl _ _).alloc (Nat.le_refl _) (.cells #[.int .i64 2, .int .i64 1, .string ⟨#[103]⟩, .bool false, .int .i64 0, .string ⟨#[99]⟩] 40))
    clear T7
    have T7 := U7
    clear U7
    have S7 := hidP (kill_n T7 w7 1 9 (by omega) (by omega) (e1 := 80) (l1 := [pS true true]) rfl rfl)
    clear T7
    go_wp2_with fail
    refine S7.out.mono ?_
    rintro e W8 ⟨rfl, T8, _⟩
    have w8 := w7
    have S8 := hidP (exit_n T8 w8 (by omega) 2 (-9) (by omega) (by omega) (e1 := 0) (l1 := [pZ true true]) rfl rfl)
    clear T8
    go_wp2_with fail
    refine S8.out.mono ?_
    rintro e W9 ⟨rfl, T9, _⟩
    have w9 : Wf 10 2 [pZ true true] := by have h := w8.exit 2 (-9); rwa [show exL [pS true true] 2 (-9) = [pZ true true] from rfl] at h
    have S9 := hidP (kill_n T9 w9 2 15 (by omega) (by omega) (e1 := 80) (l1 := [pZ true true]) rfl rfl)
    clear T9
    go_wp2_with fail
    refine S9.out.mono ?_
    rintro e W10 ⟨rfl, T10, _⟩
    have w10 := w9
    have hb := hidP T10.be
    clear T10
    go_wp2_with fail
    go_ret
    exact ⟨rfl, hb.out⟩
  · by_cases h9 : sig = 9
    · subst h9
      have S2 := hidP (kill_n T2 w2 2 15 (by omega) (by omega) (e1 := 0) (l1 := [pS true false]) rfl rfl)
      clear T2
      go_wp2_with fail
      refine S2.out.mono ?_
      rintro e W3 ⟨rfl, T3, _⟩
      have w3 : Wf 10 2 [pS true false] := w2.kill 2 15
      have S3 := hidP (kill_n T3 w3 2 9 (by omega) (by omega) (e1 := 0) (l1 := [pS true true]) rfl rfl)
      clear T3
      go_wp2_with fail
      refine S3.out.mono ?_
      rintro e W4 ⟨rfl, T4, _⟩
      have w4 : Wf 10 2 [pS true true] := w3.kill 2 9
      have S4 := hidP (sig_n T4 2 (by omega) (by omega) (a := true) (b := true) rfl rfl)
      clear T4
      go_wp2_with fail
      refine S4.out.mono ?_
      rintro e W5 ⟨rfl, T5, _⟩
      have w5 := w4
      have S5 := hidP (fork_n T5 w5 (by omega) 2 (by omega) (by omega) (s := ⟨0, 80, 2, [pS true true]⟩) rfl)
      clear T5
      go_wp2_with fail
      refine S5.out.mono ?_
      rintro e W6 ⟨rfl, T6, _⟩
      have w6 := w5
      have S6 := hidP (get_n T6 2 (by omega) (by omega) (p := pS true true) (b := true) rfl rfl)
      clear T6
      go_wp2_with fail
      refine S6.out.mono ?_
      rintro e W7 ⟨rfl, T7, _⟩
      have w7 := w6
      simp only [prV, pS, gB, cB]
      have U7 := T7.below ((Below.refl _ _).alloc (Nat.le_refl _) (.cells #[.int .i64 2, .int .i64 1, .string ⟨#[103]⟩, .bool false, .int .i64 0, .string ⟨#[99]⟩] 40))
      clear T7
      have T7 := U7
      clear U7
      have S7 := hidP (kill_n T7 w7 1 9 (by omega) (by omega) (e1 := 80) (l1 := [pS true true]) rfl rfl)
      clear T7
      go_wp2_with fail
      refine S7.out.mono ?_
      rintro e W8 ⟨rfl, T8, _⟩
      have w8 := w7
      have S8 := hidP (exit_n T8 w8 (by omega) 2 (-9) (by omega) (by omega) (e1 := 0) (l1 := [pZ true true]) rfl rfl)
      clear T8
      go_wp2_with fail
      refine S8.out.mono ?_
      rintro e W9 ⟨rfl, T9, _⟩
      have w9 : Wf 10 2 [pZ true true] := by have h := w8.exit 2 (-9); rwa [show exL [pS true true] 2 (-9) = [pZ true true] from rfl] at h
      have S9 := hidP (kill_n T9 w9 2 15 (by omega) (by omega) (e1 := 80) (l1 := [pZ true true]) rfl rfl)
      clear T9
      go_wp2_with fail
      refine S9.out.mono ?_
      rintro e W10 ⟨rfl, T10, _⟩
      have w10 := w9
      have hb := hidP T10.be
      clear T10
      go_wp2_with fail
      go_ret
      exact ⟨rfl, hb.out⟩
    · have b15 : (sig == 15) = false := by simpa using h15
      have b9 : (sig == 9) = false := by simpa using h9
      have d15 : (sig != 15) = true := by simpa using h15
      have d9 : (sig != 9) = true := by simpa using h9
      have S2 := hidP (kill_n T2 w2 2 15 (by omega) (by omega) (e1 := 0) (l1 := [pS true false]) rfl rfl)
      clear T2
      go_wp2_with fail
      refine S2.out.mono ?_
      rintro e W3 ⟨rfl, T3, _⟩
      have w3 : Wf 10 2 [pS true false] := w2.kill 2 15
      have S3 := hidP (kill_n T3 w3 2 9 (by omega) (by omega) (e1 := 0) (l1 := [pS true true]) rfl rfl)
      clear T3
      go_wp2_with fail
      refine S3.out.mono ?_
      rintro e W4 ⟨rfl, T4, _⟩
      have w4 : Wf 10 2 [pS true true] := w3.kill 2 9
      have S4 := hidP (kill_n T4 w4 2 sig (by omega) (by omega) (e1 := 80) (l1 := [pS true true]) (kl_e h15 h9) (kl_l h15 h9))
      clear T4
      go_wp2_with fail
      refine S4.out.mono ?_
      rintro e W5 ⟨rfl, T5, _⟩
      have w5 := w4
      have S5 := hidP (sig_n T5 2 (by omega) (by omega) (a := true) (b := true) rfl rfl)
      clear T5
      go_wp2_with fail
      refine S5.out.mono ?_
      rintro e W6 ⟨rfl, T6, _⟩
      have w6 := w5
      have S6 := hidP (fork_n T6 w6 (by omega) 2 (by omega) (by omega) (s := ⟨0, 80, 2, [pS true true]⟩) rfl)
      clear T6
      go_wp2_with fail
      refine S6.out.mono ?_
      rintro e W7 ⟨rfl, T7, _⟩
      have w7 := w6
      have S7 := hidP (get_n T7 2 (by omega) (by omega) (p := pS true true) (b := true) rfl rfl)
      clear T7
      go_wp2_with fail
      refine S7.out.mono ?_
      rintro e W8 ⟨rfl, T8, _⟩
      have w8 := w7
      simp only [prV, pS, gB, cB]
      have U8 := T8.below ((Below.refl _ _).alloc (Nat.le_refl _) (.cells #[.int .i64 2, .int .i64 1, .string ⟨#[103]⟩, .bool false, .int .i64 0, .string ⟨#[99]⟩] 40))
      clear T8
      have T8 := U8
      clear U8
      have S8 := hidP (kill_n T8 w8 1 9 (by omega) (by omega) (e1 := 80) (l1 := [pS true true]) rfl rfl)
      clear T8
      go_wp2_with fail
      refine S8.out.mono ?_
      rintro e W9 ⟨rfl, T9, _⟩
      have w9 := w8
      have S9 := hidP (exit_n T9 w9 (by omega) 2 (-9) (by omega) (by omega) (e1 := 0) (l1 := [pZ true true]) rfl rfl)
      clear T9
      go_wp2_with fail
      refine S9.out.mono ?_
      rintro e W10 ⟨rfl, T10, _⟩
      have w10 : Wf 10 2 [pZ true true] := by have h := w9.exit 2 (-9); rwa [show exL [pS true true] 2 (-9) = [pZ true true] from rfl] at h
      have S10 := hidP (kill_n T10 w10 2 15 (by omega) (by omega) (e1 := 80) (l1 := [pZ true true]) rfl rfl)
      clear T10
      go_wp2_with fail
      refine S10.out.mono ?_
      rintro e W11 ⟨rfl, T11, _⟩
      have w11 := w10
      have hb := hidP T11.be
      clear T11
      go_wp2_with fail
      go_ret
      exact ⟨rfl, hb.out⟩
theorem signals_walk (term kill : Bool) (sig : Int) (w : World) (h0 : -9223372036854775808 ≤ sig) (h1 : sig ≤ 9223372036854775807) :
    Calls Try.prog 7 #[.bool term, .bool kill, .int .i64 sig] w fun e w' => e = .returned (.bool true) ∧ Below w.heap.size w w' := by
  cases term <;> cases kill
  · exact signals_00 sig w h0 h1
  · exact signals_01 sig w h0 h1
  · exact signals_10 sig w h0 h1
  · exact signals_11 sig w h0 h1
end Go.Proofs.Ytlbgneacpbbjeaa
