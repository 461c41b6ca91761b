/- Ports that a law has made; known. -/
import Derived.Test.YtppbdamlhcmlcaaPX
namespace Go.Proofs.Ytppbdamlhcmlcaa
open Go.RowKit Go.Shelf Go.Lib
/-- All of the ports is new since w. -/
structure Fr (w : World) (S : St) (W : World) : Prop where
  g : Ps W S
  b : Below w.heap.size w W
  n : ∀ k, hasB S k → w.heap.size ≤ k
theorem Fr.step {w W W' : World} {S S' : St} {d : Nat} (h : Fr w S W) (k : Goes S W S' W' d) : Fr w S' W' :=
  ⟨k.g, h.b.trans (k.mv.toBelow h.b.size (fun x hx q => by have := h.n x q; omega)), fun x hx => by
    rcases k.gr x hx with q | q
    · exact h.n x q
    · exact Nat.le_trans h.b.size q⟩
theorem Fr.below {w W W' : World} {S : St} (h : Fr w S W) (k : Below W.heap.size W W') : Fr w S W' := h.step (Goes.below h.g k)
theorem Fr.new {w W W' : World} (h : Below w.heap.size w W) (g : Ps W' (empty (W.heap.size + 1) W.heap.size)) (k : Below W.heap.size W W') : Fr w (empty (W.heap.size + 1) W.heap.size) W' :=
  ⟨g, h.trans (k.mono h.size), fun x ⟨a, hx⟩ => by
    have := h.size
    cases a with
    | t => have : x = W.heap.size + 1 := hx; omega
    | h => have : x = W.heap.size := hx; omega
    | m => cases hx
    | q s => obtain ⟨q, e, _⟩ := hx; cases e
    | v s => obtain ⟨q, e, _⟩ := hx; cases e⟩
def tA : ByteArray := ⟨#[97]⟩
def tX : ByteArray := ⟨#[120]⟩
def p0 : Pl := ⟨fun _ => none, [], 0⟩
def p1 : Pl := ⟨upP (fun _ => none) tA (some []), [], 0⟩
def p2 : Pl := ⟨upP (upP (fun _ => none) tA (some [])) tA (some [(1, tX)]), [], 1⟩
def p3 : Pl := ⟨upP (upP (upP (fun _ => none) tA (some [])) tA (some [(1, tX)])) tA (some []), [], 1⟩
theorem k1 : listenP p0 tA = (0, p1) := by kernel_rfl
theorem k2 : connectP p1 tA tX = (1, 0, p2) := by kernel_rfl
theorem k3 : acceptP p2 tA = ((1, tX), 0, p3) := by kernel_rfl
theorem k4 : acceptP p3 tA = (zP, 100, p3) := by kernel_rfl
theorem k5 : listenP p3 tA = (101, p3) := by kernel_rfl
set_option maxRecDepth 100000 in
set_option maxHeartbeats 4000000 in
theorem known_any (w : World) : Calls Try.prog 7 #[] w fun e w' => e = .returned (.bool true) ∧ Below w.heap.size w w' := by
  have hN := new_any w
  go_enter Try.func7, Try.ntmps7
  go_wp2_with fail
  refine hN.mono ?_
  rintro e W1 ⟨rfl, hg1, hb1⟩
  obtain ⟨b, hb⟩ : ∃ b, w.heap.size + 1 = b := ⟨_, rfl⟩
  have F1 := Fr.new (Below.refl _ w) hg1 hb1
  rw [hb] at hg1 F1 ⊢
  have hL := listen_any (empty b w.heap.size) tA W1 hg1 (by decide) (Nat.zero_le _)
  rw [show (empty b w.heap.size).bt = b from rfl, show pl (empty b w.heap.size) = p0 from rfl, k1] at hL
  have F1H := hidP F1
  simp only [tA] at hL
  clear hN hg1 hb1 F1 hb
  go_wp2_with fail
  refine hL.mono ?_
  rintro e W2 ⟨rfl, S2, G2, e2⟩
  have F2 := F1H.out.step G2
  have hc2 : Hid (S2.bt = b ∧ S2.c ≤ 1) := ⟨G2.bt, G2.c⟩
  have hC := connect_any S2 tA tX W2 F2.g (by decide) (by have := hc2.out.2; omega)
  rw [hc2.out.1, e2, k2] at hC
  have F2H := hidP F2
  simp only [tA, tX] at hC
  clear hL G2 F2 F1H e2
  go_wp2_with fail
  refine hC.mono ?_
  rintro e W3 ⟨rfl, S3, G3, e3⟩
  have F3 := F2H.out.step G3
  have hc3 : Hid (S3.bt = b) := G3.bt.trans hc2.out.1
  have hcc3 : Hid (S3.c ≤ 2) := by have := G3.c; have := hc2.out.2; show _ ≤ _; omega
  have hA := accept_any S3 tA W3 F3.g (by decide)
  have F3H := hidP F3
  rw [hc3.out, e3, k3] at hA
  simp only [tA, tX] at hA
  clear hC G3 F3 F2H e3 hc2
  go_wp2_with fail
  refine hA.mono ?_
  rintro e W4 ⟨rfl, S4, G4, e4⟩
  have F4 := F3H.out.step G4
  have hc4 : Hid (S4.bt = b) := G4.bt.trans hc3.out
  have hc5 : Hid (S4.c ≤ 10) := by have := G4.c; have := hcc3.out; show _ ≤ _; omega
  have hnB : Hid (¬ hasB S4 W4.heap.size) := fun e => by have := F4.g.ltB e; omega
  obtain ⟨V4, hV4⟩ : ∃ V4, W4.alloc (.cells #[.int .i64 1, .string ⟨#[120]⟩] 41) = V4 := ⟨_, rfl⟩
  have F5 := F4.below (W' := V4) (by rw [← hV4]; exact (Below.refl _ _).alloc (Nat.le_refl _) _)
  have v0 : V4.cell? ⟨W4.heap.size, 0, none⟩ = some (.int .i64 1) := by rw [← hV4]; exact cell_at rfl rfl
  have v1 : V4.cell? ⟨W4.heap.size, 1, none⟩ = some (.string ⟨#[120]⟩) := by rw [← hV4]; exact cell_at rfl rfl
  have hA2 := accept_any S4 tA V4 F5.g (by decide)
  have F5H := hidP F5
  rw [hc4.out, e4, k4] at hA2
  simp only [tA, zP] at hA2
  clear hA G4 F4 F5 F3H e4 hc3
  go_wp2_with (rw [hV4])
  refine hA2.mono ?_
  rintro e W6 ⟨rfl, S6, G6, e6⟩
  have F6 := F5H.out.step G6
  have hc6 : Hid (S6.bt = b) := G6.bt.trans hc4.out
  have q0 := G6.mv.cell (a := ⟨W4.heap.size, 0, none⟩) hnB.out v0
  have q1 := G6.mv.cell (a := ⟨W4.heap.size, 1, none⟩) hnB.out v1
  obtain ⟨V6, hV6⟩ : ∃ V6, W6.alloc (.cells #[.int .i64 0, .string ⟨#[]⟩] 41) = V6 := ⟨_, rfl⟩
  have F7 := F6.below (W' := V6) (by rw [← hV6]; exact (Below.refl _ _).alloc (Nat.le_refl _) _)
  have w0 : V6.cell? ⟨W4.heap.size, 0, none⟩ = some (.int .i64 1) := by rw [← hV6]; exact (Mv.alloc (fun _ => False) _ _).cell (a := ⟨W4.heap.size, 0, none⟩) (fun h => h) q0
  have w1 : V6.cell? ⟨W4.heap.size, 1, none⟩ = some (.string ⟨#[120]⟩) := by rw [← hV6]; exact (Mv.alloc (fun _ => False) _ _).cell (a := ⟨W4.heap.size, 1, none⟩) (fun h => h) q1
  have hL2 := listen_any S6 tA V6 F7.g (by decide) (by have := F5H.out; have := G6.c; have := hc5.out; omega)
  rw [hc6.out, e6, k5] at hL2
  simp only [tA] at hL2
  have F7H := hidP F7
  have qE : ∀ w, (binOp .eql 41 (.agg #[.int .i64 1, .string ⟨#[120]⟩]) (.agg #[.int .i64 1, .string ⟨#[120]⟩])).run Try.prog w = .ok (.bool true) w := fun w => by kernel_rfl
  clear hA2 F5H F6 F7 G6 v0 v1 q0 q1 hV4 e6 hnB hc5
  subst hV6
  go_wp2_with fail
  refine hL2.mono ?_
  rintro e W8 ⟨rfl, S8, G8, e8⟩
  have fin := hidP (F7H.out.step G8).b
  clear F7H hL2 G8 e8
  go_wp2_with fail
  go_ret
  exact ⟨rfl, fin.out⟩
end Go.Proofs.Ytppbdamlhcmlcaa
