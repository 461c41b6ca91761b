/- Queues in the laws: orders, one queue, two queues; known. -/
import Derived.Test.YtcjlkhgnohdonaaQiV
import Derived.Test.YtcjlkhgnohdonaaQsQ
namespace Go.Proofs.Ytcjlkhgnohdonaa
open Go.RowKit Go.Shelf Go.Lib
attribute [local go_sem] Oper.semAt_some
theorem insA_neg : ∀ (v : Int) (L : List Int), insA (fun x : Int => -x) (-v) (L.map fun x => -x) = (insA (fun x : Int => x) v L).map fun x => -x
  | v, [] => rfl
  | v, y :: L => by
    simp only [insA, List.map_cons]
    by_cases h : v < y
    · rw [if_pos (by omega), if_pos h]; rfl
    · rw [if_neg (by omega), if_neg h, List.map_cons, insA_neg v L]
theorem Qi.sorted {nb : Nat} {key : Int → Int} {w : World} {q : Nat} {E B : Nat → Prop} {L : List Int} {n : Nat} (h : Qi.Qu nb key w q E B L n) : L.Pairwise fun a b => key a ≤ key b := by
  obtain ⟨v, xs, F, L', a1, a2, rfl, _⟩ := h
  rw [List.pairwise_map]
  refine a2.so.imp fun {a b} h => ?_
  rcases h with h | h
  · omega
  · have := h.1; omega
set_option maxRecDepth 100000 in
set_option maxHeartbeats 1000000 in
theorem bf_known : Qi.Bf 22 (fun x => x) := by
  refine ⟨enters_of Try.func22 (by kernel_rfl) rfl, fun a b w => ?_⟩
  go_enter Try.func22, Try.ntmps22
  go_wp2_with fail
  go_ret
  exact ⟨rfl, Below.refl _ _⟩
set_option maxRecDepth 100000 in
set_option maxHeartbeats 1000000 in
theorem bf_both1 : Qi.Bf 13 (fun x => x) := by
  refine ⟨enters_of Try.func13 (by kernel_rfl) rfl, fun a b w => ?_⟩
  go_enter Try.func13, Try.ntmps13
  go_wp2_with fail
  go_ret
  exact ⟨rfl, Below.refl _ _⟩
set_option maxRecDepth 100000 in
set_option maxHeartbeats 1000000 in
theorem bf_both2 : Qi.Bf 14 (fun x => -x) := by
  refine ⟨enters_of Try.func14 (by kernel_rfl) rfl, fun (a b : Int) w => ?_⟩
  have e : decide (-a < -b) = decide (b < a) := by
    by_cases h : b < a
    · rw [decide_eq_true h, decide_eq_true (by omega)]
    · rw [decide_eq_false h, decide_eq_false (by omega)]
  show Calls _ _ _ _ fun e w' => e = .returned (.bool (decide (-a < -b))) ∧ _
  rw [e]
  clear e
  go_enter Try.func14, Try.ntmps14
  go_wp2_with fail
  go_ret
  exact ⟨rfl, Below.refl _ _⟩
/-- One queue of a law's own: all of it is new behind w0. -/
def Kq (nb : Nat) (key : Int → Int) (w0 : World) (W : World) (q : Nat) (L : List Int) (n : Nat) : Prop :=
  ∃ E B, Qi.Qu nb key W q E B L n ∧ (∀ k, E k → w0.heap.size ≤ k) ∧ (∀ k, B k → w0.heap.size ≤ k) ∧ Below w0.heap.size w0 W
theorem Kq.go {nb : Nat} {key : Int → Int} {w0 W : World} {q : Nat} {L L' : List Int} {n n' f : Nat} {args : Array Value} {R : Ending → Prop} (h : Kq nb key w0 W q L n) (hc : ∀ E B, Qi.Qu nb key W q E B L n → Calls Try.prog f args W fun e V => R e ∧ Qi.Qg nb key W q E B L' n' V) : Calls Try.prog f args W fun e V => R e ∧ Kq nb key w0 V q L' n' := by
  obtain ⟨E, B, h1, h2, h3, h4⟩ := h
  refine (hc E B h1).mono ?_
  rintro e V ⟨hR, E', B', q1, q2, q3, q4⟩
  have sz := h4.size
  exact ⟨hR, E', B', q1, fun k hk => (q3 k hk).elim (h2 k) (fun s => by omega), fun k hk => (q4 k hk).elim (h3 k) (fun s => by omega), h4.trans (q2.toBelow h4.size (fun k hk e => by have := h2 k e; omega))⟩
theorem Kq.below {nb : Nat} {key : Int → Int} {w0 W V : World} {q : Nat} {L : List Int} {n : Nat} (h : Kq nb key w0 W q L n) (b : Below W.heap.size W V) : Kq nb key w0 V q L n := by
  obtain ⟨E, B, h1, h2, h3, h4⟩ := h
  exact ⟨E, B, h1.mv (D := fun _ => False) (Mv.below b) (fun _ _ h => h) (fun _ _ h => h), h2, h3, h4.trans (b.mono h4.size)⟩
set_option maxRecDepth 100000 in
set_option maxHeartbeats 4000000 in
theorem known_any (w : World) : Calls Try.prog 6 #[] w fun e V => e = .returned (.bool true) ∧ Below w.heap.size w V := by
  have hN := hidP (Qi.new_any (nb := 22) (key := fun x => x) w)
  have hS := hidP (fun W => Qs.new_any (nb := 24) (key := fun _ => 0) W)
  unfold Qi.fnV Qs.fnV at *
  go_enter Try.func6, Try.ntmps6
  go_wp2_with fail
  refine hN.out.mono ?_
  rintro e w1 ⟨rfl, hq, hb⟩
  obtain ⟨q, hqq⟩ : ∃ q, w.heap.size = q := ⟨_, rfl⟩
  have k0 : Kq 22 (fun x => x) w w1 q [] 0 := ⟨_, _, by rw [← hqq]; exact hq, fun k e => by omega, fun k e => False.elim e, hb⟩
  have hP1 := hidP (k0.go (f := 15) (args := #[Qi.qp q, Qi.ev 3]) (R := fun e => e = .returned (.tuple #[])) (fun E B h => Qi.push_any bf_known h (by omega) 3))
  unfold Qi.qp Qi.ev at *
  rw [hqq]
  clear hN hq hb k0
  go_wp2_with fail
  refine hP1.out.mono ?_
  rintro e w2 ⟨rfl, k2⟩
  have hP2 := hidP (Kq.go (f := 15) (args := #[Qi.qp q, Qi.ev 1]) (R := fun e => e = .returned (.tuple #[])) k2 (fun E B h => Qi.push_any bf_known h (by omega) 1))
  unfold Qi.qp Qi.ev at hP2
  clear k2 hP1
  go_wp2_with fail
  refine hP2.out.mono ?_
  rintro e w3 ⟨rfl, k3⟩
  have hP3 := hidP (Kq.go (f := 15) (args := #[Qi.qp q, Qi.ev 2]) (R := fun e => e = .returned (.tuple #[])) k3 (fun E B h => Qi.push_any bf_known h (by omega) 2))
  unfold Qi.qp Qi.ev at hP3
  clear k3 hP2
  go_wp2_with fail
  refine hP3.out.mono ?_
  rintro e w4 ⟨rfl, k4⟩
  have e4 : insA (fun x : Int => x) 2 (insA (fun x : Int => x) 1 (insA (fun x : Int => x) 3 [])) = [1, 2, 3] := by decide
  have k4' : Kq 22 (fun x => x) w w4 q [1, 2, 3] 3 := by rw [← e4]; exact k4
  have hP4 := hidP (Kq.go (f := 16) (args := #[Qi.qp q]) (R := fun e => e = .returned (.tuple #[Qi.ev 1, .int .i64 0])) k4' (fun E B h => Qi.pop_some bf_known h))
  unfold Qi.qp Qi.ev at hP4
  clear k4 k4' e4 hP3
  go_wp2_with fail
  refine hP4.out.mono ?_
  rintro e w5 ⟨rfl, k5⟩
  have k5H := hidP k5
  obtain ⟨E5, B5, u5, g5, g6, b5⟩ := k5
  have hP5 := hidP (Qi.peek_some u5)
  have hL := hidP (fun W (b : Below w5.heap.size w5 W) => Qi.len_any (u5.mv (D := fun _ => False) (Mv.below b) (fun _ _ h => h) (fun _ _ h => h)))
  have b5H := hidP b5
  unfold Qi.qp at hP5 hL
  unfold Qi.ev at hP5
  clear u5 g5 g6 b5 hP4 k5H
  go_wp2_with fail
  refine hP5.out.mono ?_
  rintro e w6 ⟨rfl, rfl⟩
  clear hP5
  go_wp2_with fail
  refine (hS.out w6).mono ?_
  rintro e w7 ⟨rfl, u7, b7⟩
  have hP7 := hidP (Qs.pop_none u7)
  have b7H := hidP b7
  have hL7 := hidP (hL.out w7 b7)
  unfold Qs.qp at *
  clear u7 b7 hS hL
  go_wp2_with fail
  refine hP7.out.mono ?_
  rintro e w8 ⟨rfl, rfl⟩
  clear hP7
  go_wp2_with fail
  refine hL7.out.mono ?_
  rintro e w9 ⟨rfl, rfl⟩
  have fin := hidP (b5H.out.trans (b7H.out.mono b5H.out.size))
  clear hL7 b7H b5H
  go_wp2_with fail
  go_ret
  exact ⟨rfl, fin.out⟩
end Go.Proofs.Ytcjlkhgnohdonaa
