/- A tree that a law has made; known. -/
import Derived.Test.YtnniahlacfflmaaDoorTK
namespace Go.Proofs.YtnniahlacfflmaaDoor
open Go.RowKit Go.Shelf
attribute [local go_sem] Oper.semAt_some
/-- All of the tree is new since w. -/
structure Fr (w : World) (S : St) (W : World) : Prop where
  g : Ts W S
  b : Below w.heap.size w W
  nt : w.heap.size ≤ S.bt
  nh : w.heap.size ≤ S.bh
  ns : w.heap.size ≤ S.bs
theorem Fr.step {w W W' : World} {S : St} {P : Pl} {d : Nat} (h : Fr w S W) (k : Goes S W P d W') : Fr w { S with p := P, c := S.c + d } W' :=
  ⟨k.g, h.b.trans (k.m.toBelow h.b.size (fun x hx q => by have := h.nh; have := h.ns; rcases q with q | q <;> omega)), h.nt, h.nh, h.ns⟩
theorem Fr.below {w W W' : World} {S : St} (h : Fr w S W) (k : Below W.heap.size W W') : Fr w S W' := ⟨h.g.below k, h.b.trans (k.mono h.b.size), h.nt, h.nh, h.ns⟩
def sA : ByteArray := ⟨#[47, 97]⟩
def sAB : ByteArray := ⟨#[47, 97, 47, 98]⟩
def sABC : ByteArray := ⟨#[47, 97, 47, 98, 47, 99]⟩
def sX : ByteArray := ⟨#[120]⟩
def q1 : Pl := (makeP pl0 sA true).2
def q2 : Pl := (makeP q1 sAB false).2
theorem e1 : (makeP pl0 sA true).1 = 0 := by kernel_rfl
theorem e2 : (makeP q1 sAB false).1 = 0 := by kernel_rfl
theorem e3 : q2.st sA = 2 := by kernel_rfl
theorem e4 : makeP q2 sABC false = (110, q2) := by kernel_rfl
theorem e5 : removeP q2 sA = (112, q2) := by kernel_rfl
theorem e6 : (mountP q2 sX sA).1 = 0 := by kernel_rfl
set_option maxRecDepth 100000 in
set_option maxHeartbeats 4000000 in
theorem known_any (w : World) (hg : Mx w) : Calls Tryd.prog 7 #[] w fun e w' => e = .returned (.bool true) ∧ Below w.heap.size w w' := by
  have hN := hidP (new_any w hg)
  clear hg
  go_enter Tryd.func7, Tryd.ntmps7
  go_wp2_with fail
  refine hN.out.mono ?_
  rintro e W1 ⟨S, rfl, hT, hp, hc, hb, n1, n2, n3⟩
  have F1 : Fr w S W1 := ⟨hT, hb, n1, n2, n3⟩
  have wf0' : Wf S.p := by rw [hp]; exact wf0
  have hM := make_any S sA true W1 hT (by decide) (by omega)
  rw [hp, e1] at hM
  have hMH := hidP hM
  have F1H := hidP (And.intro F1 (And.intro hc wf0'))
  unfold sA at hMH
  clear hN hT hp hc hb n1 n2 n3 F1 hM wf0'
  go_wp2_with fail
  refine hMH.out.mono ?_
  rintro e W2 ⟨rfl, G2⟩
  have F2 := F1H.out.1.step G2
  have hc2 := F1H.out.2.1
  have hM := make_any _ sAB false W2 F2.g (by decide) (by show S.c + 4 ≤ 900000; omega)
  have hM : Calls Tryd.prog 10 #[.pointer (some ⟨S.bt, 0, none⟩), .string sAB, .bool false] W2 fun e w' => e = .returned (.int .i64 (makeP q1 sAB false).1) ∧ Goes { S with p := q1, c := S.c + 4 } W2 (makeP q1 sAB false).2 4 w' := hM
  rw [e2] at hM
  have hMH := hidP hM
  have F2H := hidP (And.intro F2 hc2)
  unfold sAB at hMH
  clear hM hc2 F2 G2 F1H
  go_wp2_with fail
  refine hMH.out.mono ?_
  rintro e W3 ⟨rfl, G3⟩
  have F3 := F2H.out.1.step G3
  have hc3 := F2H.out.2
  have hS : Calls Tryd.prog 24 #[.pointer (some ⟨S.bt, 0, none⟩), .string sA] W3 fun e w' => e = .returned (.int .i64 (q2.st sA)) ∧ w' = W3 := stamp_any _ sA W3 F3.g (by decide)
  rw [e3] at hS
  have hSH := hidP hS
  unfold sA at hSH
  have hM : Calls Tryd.prog 10 #[.pointer (some ⟨S.bt, 0, none⟩), .string sABC, .bool false] W3 fun e w' => e = .returned (.int .i64 (makeP q2 sABC false).1) ∧ Goes { S with p := q2, c := S.c + 4 + 4 } W3 (makeP q2 sABC false).2 4 w' := make_any _ sABC false W3 F3.g (by decide) (by show S.c + 4 + 4 ≤ 900000; omega)
  rw [e4] at hM
  have hMH := hidP hM
  unfold sABC at hMH
  have F3H := hidP (And.intro F3 hc3)
  clear hM hS hc3 F3 G3 F2H
  go_wp2_with fail
  refine hSH.out.mono ?_
  rintro e W3' ⟨rfl, rfl⟩
  go_wp2_with fail
  refine hMH.out.mono ?_
  rintro e W4 ⟨rfl, G4⟩
  have F4 := F3H.out.1.step G4
  have hc4 := F3H.out.2
  have wf2 : Wf q2 := (wf0.make sA true).make sAB false
  have hR : Calls Tryd.prog 14 #[.pointer (some ⟨S.bt, 0, none⟩), .string sA] W4 fun e w' => e = .returned (.int .i64 (removeP q2 sA).1) ∧ Goes { S with p := q2, c := S.c + 4 + 4 + 4 } W4 (removeP q2 sA).2 4 w' := remove_any _ sA W4 F4.g wf2 (by decide) (by show S.c + 4 + 4 + 4 ≤ 900000; omega)
  rw [e5] at hR
  have hRH := hidP hR
  unfold sA at hRH
  have F4H := hidP (And.intro F4 (And.intro hc4 wf2))
  clear hR hc4 F4 G4 F3H wf2 hMH hSH
  go_wp2_with fail
  refine hRH.out.mono ?_
  rintro e W5 ⟨rfl, G5⟩
  have F5 := F4H.out.1.step G5
  have hc5 := F4H.out.2.1
  have hM : Calls Tryd.prog 16 #[.pointer (some ⟨S.bt, 0, none⟩), .string sX, .string sA] W5 fun e w' => e = .returned (.int .i64 (mountP q2 sX sA).1) ∧ Goes { S with p := q2, c := S.c + 4 + 4 + 4 + 4 } W5 (mountP q2 sX sA).2 1001 w' := mount_any _ sX sA W5 F5.g F4H.out.2.2 (by decide) (by show S.c + 4 + 4 + 4 + 4 ≤ 900000; omega)
  rw [e6] at hM
  have hMH := hidP hM
  unfold sA sX at hMH
  have F5H := hidP F5
  clear hM hc5 F5 G5 F4H hRH
  go_wp2_with fail
  refine hMH.out.mono ?_
  rintro e W6 ⟨rfl, G6⟩
  have fin := hidP (F5H.out.step G6).b
  clear G6 F5H hMH
  go_wp2_with fail
  go_ret
  exact ⟨rfl, fin.out⟩
end Go.Proofs.YtnniahlacfflmaaDoor
