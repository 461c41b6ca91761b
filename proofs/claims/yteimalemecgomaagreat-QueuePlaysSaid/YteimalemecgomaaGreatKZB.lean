/- QueuePlays: known, the order, the match. -/
import Derived.Test.YteimalemecgomaaGreatQiVB
import Derived.Test.YteimalemecgomaaGreatQtNB
namespace Go.Proofs.YteimalemecgomaaGreat
open Go.RowKit Go.Shelf Go.Lib
attribute [local go_sem] Oper.semAt_some
set_option maxRecDepth 100000 in
set_option maxHeartbeats 1000000 in
theorem bf_known : Qi.Bf 16 (fun x => x) := by
  refine ⟨enters_of Tryz.func16 (by kernel_rfl) rfl, fun a b w => ?_⟩
  go_enter Tryz.func16, Tryz.ntmps16
  go_wp2_with fail
  go_ret
  exact ⟨rfl, Below.refl _ _⟩
/-- One queue of a law's own: all of it is new behind w0. -/
def Kq (nb : Nat) (key : Int → Int) (w0 : World) (W : World) (q : Nat) (L : List Int) (n : Nat) : Prop :=
  ∃ E B, Qi.Qu nb key W q E B L n ∧ (∀ k, E k → w0.heap.size ≤ k) ∧ (∀ k, B k → w0.heap.size ≤ k) ∧ Below w0.heap.size w0 W
theorem Kq.go {nb : Nat} {key : Int → Int} {w0 W : World} {q : Nat} {L L' : List Int} {n n' f : Nat} {args : Array Value} {R : Ending → Prop} (h : Kq nb key w0 W q L n) (hc : ∀ E B, Qi.Qu nb key W q E B L n → Calls Tryz.prog f args W fun e V => R e ∧ Qi.Qg nb key W q E B L' n' V) : Calls Tryz.prog f args W fun e V => R e ∧ Kq nb key w0 V q L' n' := by
  obtain ⟨E, B, h1, h2, h3, h4⟩ := h
  refine (hc E B h1).mono ?_
  rintro e V ⟨hR, E', B', q1, q2, q3, q4⟩
  have sz := h4.size
  exact ⟨hR, E', B', q1, fun k hk => (q3 k hk).elim (h2 k) (fun s => by omega), fun k hk => (q4 k hk).elim (h3 k) (fun s => by omega), h4.trans (q2.toBelow h4.size (fun k hk e => by have := h2 k e; omega))⟩
theorem Kq.below {nb : Nat} {key : Int → Int} {w0 W V : World} {q : Nat} {L : List Int} {n : Nat} (h : Kq nb key w0 W q L n) (b : Below W.heap.size W V) : Kq nb key w0 V q L n := by
  obtain ⟨E, B, h1, h2, h3, h4⟩ := h
  exact ⟨E, B, h1.mv (D := fun _ => False) (Mv.below b) (fun _ _ h => h) (fun _ _ h => h), h2, h3, h4.trans (b.mono h4.size)⟩
set_option maxRecDepth 100000 in
set_option maxHeartbeats 1000000 in
theorem news_any (nb : Nat) (w : World) : Calls Tryz.prog 20 #[.func (.func nb) #[] #[]] w fun e V => e = .returned (.pointer (some ⟨w.heap.size, 0, none⟩)) ∧ V.cell? ⟨w.heap.size, 1, none⟩ = some (.slice none 0 0) ∧ Below w.heap.size w V := by
  obtain ⟨V, hV⟩ : ∃ V, w.alloc (.cells #[.func (.func nb) #[] #[], .slice none 0 0, .int .i64 0, .int .i64 0] 81) = V := ⟨_, rfl⟩
  have fin : Hid (V.cell? ⟨w.heap.size, 1, none⟩ = some (.slice none 0 0) ∧ Below w.heap.size w V) := ⟨by rw [← hV]; exact cell_at rfl rfl, by rw [← hV]; exact (Below.refl _ _).alloc (Nat.le_refl _) _⟩
  go_enter Tryz.func20, Tryz.ntmps20
  go_wp2_with (rw [hV])
  go_ret
  exact ⟨rfl, fin.out⟩
set_option maxRecDepth 100000 in
set_option maxHeartbeats 1000000 in
theorem pops_none {w : World} {q : Nat} (c : w.cell? ⟨q, 1, none⟩ = some (.slice none 0 0)) : Calls Tryz.prog 22 #[.pointer (some ⟨q, 0, none⟩)] w fun e V => e = .returned (.tuple #[.string ⟨#[]⟩, .int .i64 130]) ∧ V = w := by
  go_enter Tryz.func22, Tryz.ntmps22
  go_wp2_with fail
  refine bodyPost_ret (v := .tuple #[.string ⟨#[]⟩, .int .i64 130]) (by simp [results, Tryz.results22, go_sem]) rfl ⟨rfl, rfl⟩
set_option maxRecDepth 100000 in
set_option maxHeartbeats 1000000 in
theorem bf_less : Qt.Bf 6 (fun x => x.1) := by
  refine ⟨enters_of Tryz.func6 (by kernel_rfl) rfl, fun a b w => ?_⟩
  obtain ⟨V, hV⟩ : ∃ V, (w.alloc (.cells #[.int .i64 a.1, .int .i64 a.2] 27)).alloc (.cells #[.int .i64 b.1, .int .i64 b.2] 27) = V := ⟨_, rfl⟩
  have fin : Hid (Below w.heap.size w V) := by rw [← hV]; exact ((Below.refl _ _).alloc (Nat.le_refl _) _).alloc (by simp) _
  obtain ⟨n, hn⟩ : ∃ n, w.heap.size = n := ⟨_, rfl⟩
  have c1 : V.cell? ⟨n, 0, none⟩ = some (.int .i64 a.1) := by rw [← hV]; exact (Mv.alloc (fun _ => False) _ _).cell (fun h => h) (cell_at hn rfl)
  have c2 : V.cell? ⟨n + 1, 0, none⟩ = some (.int .i64 b.1) := by rw [← hV]; exact cell_at (by simp [hn]) rfl
  go_enter Tryz.func6, Tryz.ntmps6
  go_wp2_with (rw [hV])
  go_ret
  exact ⟨rfl, fin.out⟩
set_option maxRecDepth 100000 in
set_option maxHeartbeats 4000000 in
theorem known_any (w : World) : Calls Tryz.prog 4 #[] w fun e V => e = .returned (.bool true) ∧ Below w.heap.size w V := by
  have hN := hidP (Qi.new_any (nb := 16) (key := fun x => x) w)
  have hS := hidP (fun W => news_any 21 W)
  unfold Qi.fnV at *
  go_enter Tryz.func4, Tryz.ntmps4
  go_wp2_with fail
  refine hN.out.mono ?_
  rintro e w1 ⟨rfl, hq, hb⟩
  obtain ⟨q, hqq⟩ : ∃ q, w.heap.size = q := ⟨_, rfl⟩
  have k0 : Kq 16 (fun x => x) w w1 q [] 0 := ⟨_, _, by rw [← hqq]; exact hq, fun k e => by omega, fun k e => False.elim e, hb⟩
  have hP1 := hidP (k0.go (f := 17) (args := #[Qi.qp q, Qi.ev 3]) (R := fun e => e = .returned (.tuple #[])) (fun E B h => Qi.push_any bf_known h (by omega) 3))
  unfold Qi.qp Qi.ev at *
  rw [hqq]
  clear hN hq hb k0
  go_wp2_with fail
  refine hP1.out.mono ?_
  rintro e w2 ⟨rfl, k2⟩
  have hP2 := hidP (Kq.go (f := 17) (args := #[Qi.qp q, Qi.ev 1]) (R := fun e => e = .returned (.tuple #[])) k2 (fun E B h => Qi.push_any bf_known h (by omega) 1))
  unfold Qi.qp Qi.ev at hP2
  clear k2 hP1
  go_wp2_with fail
  refine hP2.out.mono ?_
  rintro e w3 ⟨rfl, k3⟩
  have hP3 := hidP (Kq.go (f := 17) (args := #[Qi.qp q, Qi.ev 2]) (R := fun e => e = .returned (.tuple #[])) k3 (fun E B h => Qi.push_any bf_known h (by omega) 2))
  unfold Qi.qp Qi.ev at hP3
  clear k3 hP2
  go_wp2_with fail
  refine hP3.out.mono ?_
  rintro e w4 ⟨rfl, k4⟩
  have e4 : insA (fun x : Int => x) 2 (insA (fun x : Int => x) 1 (insA (fun x : Int => x) 3 [])) = [1, 2, 3] := by decide
  have k4' : Kq 16 (fun x => x) w w4 q [1, 2, 3] 3 := by rw [← e4]; exact k4
  have hP4 := hidP (Kq.go (f := 18) (args := #[Qi.qp q]) (R := fun e => e = .returned (.tuple #[Qi.ev 1, .int .i64 0])) k4' (fun E B h => Qi.pop_some bf_known h))
  unfold Qi.qp Qi.ev at hP4
  clear k4 k4' e4 hP3
  go_wp2_with fail
  refine hP4.out.mono ?_
  rintro e w5 ⟨rfl, k5⟩
  have k5H := hidP k5
  obtain ⟨E5, B5, u5, g5, g6, b5⟩ := k5
  have hP5 := hidP (Qi.peek_some u5)
  have hL := hidP (fun W (b : Below w5.heap.size w5 W) => Qi.len_any (u5.mv (D := fun _ => False) (Mv.below b) (fun _ _ h => h) (fun _ _ h => h)))
  have b5H := hidP b5
  unfold Qi.qp at hP5 hL
  unfold Qi.ev at hP5
  clear u5 g5 g6 b5 hP4 k5H
  go_wp2_with fail
  refine hP5.out.mono ?_
  rintro e w6 ⟨rfl, rfl⟩
  clear hP5
  go_wp2_with fail
  refine (hS.out w6).mono ?_
  rintro e w7 ⟨rfl, u7, b7⟩
  have hP7 := hidP (pops_none u7)
  have b7H := hidP b7
  have hL7 := hidP (hL.out w7 b7)
  clear u7 b7 hS hL
  go_wp2_with fail
  refine hP7.out.mono ?_
  rintro e w8 ⟨rfl, rfl⟩
  clear hP7
  go_wp2_with fail
  refine hL7.out.mono ?_
  rintro e w9 ⟨rfl, rfl⟩
  have fin := hidP (b5H.out.trans (b7H.out.mono b5H.out.size))
  clear hL7 b7H b5H
  go_wp2_with fail
  go_ret
  exact ⟨rfl, fin.out⟩
end Go.Proofs.YteimalemecgomaaGreat
