/- Groups that a law has made; known. -/
import Derived.Test.YtfmceioiglmepaaGI
namespace Go.Proofs.Ytfmceioiglmepaa
open Go.RowKit Go.Shelf
/-- All of the groups is new since w. -/
structure Fr (w : World) (S : St) (W : World) : Prop where
  g : Gs W S
  b : Below w.heap.size w W
  n : ∀ k, hasB S k → w.heap.size ≤ k
theorem Fr.step {w W W' : World} {S S' : St} {d : Nat} (h : Fr w S W) (k : Goes S W S' W' d) : Fr w S' W' :=
  ⟨k.g, h.b.trans (k.mv.toBelow h.b.size (fun x hx q => by have := h.n x q; omega)), fun x hx => by
    rcases k.gr x hx with q | q
    · exact h.n x q
    · exact Nat.le_trans h.b.size q⟩
theorem Fr.below {w W W' : World} {S : St} (h : Fr w S W) (k : Below W.heap.size W W') : Fr w S W' := h.step (Goes.below h.g k)
theorem Fr.new {w W W' : World} (h : Below w.heap.size w W) (g : Gs W' (st0 W.heap.size)) (k : Below W.heap.size W W') : Fr w (st0 W.heap.size) W' :=
  ⟨g, h.trans (k.mono h.size), fun x hx => by
    have := h.size
    rcases hx with hx | hx
    · simp only [Bs, st0, List.map_nil, List.mem_cons, List.not_mem_nil, or_false] at hx
      rcases hx with rfl | rfl | rfl | rfl <;> omega
    · cases hx⟩
def tA : ByteArray := ⟨#[97]⟩
def tB : ByteArray := ⟨#[98]⟩
set_option maxRecDepth 100000 in
set_option maxHeartbeats 4000000 in
theorem known_any (w : World) : Calls Try.prog 6 #[] w fun e w' => e = .returned (.bool true) ∧ Below w.heap.size w w' := by
  have hN := new_any w
  have hbt : (st0 w.heap.size).bt = w.heap.size + 3 := rfl
  go_enter Try.func6, Try.ntmps6
  go_wp2_with fail
  refine hN.mono ?_
  rintro e W1 ⟨rfl, hg1, hb1⟩
  obtain ⟨b, hb⟩ : ∃ b, w.heap.size + 3 = b := ⟨_, rfl⟩
  have F1 := Fr.new (Below.refl _ w) hg1 hb1
  have hM := make_any (st0 w.heap.size) tA W1 hg1 (by decide) (by show 0 ≤ 900000; omega)
  rw [hbt, hb] at hM
  rw [hb]
  have F1H := hidP F1
  have hbH := hidP hb
  clear hN hg1 hb1 F1 hbt hb
  rw [show makeE (st0 w.heap.size).l tA = 0 by kernel_rfl] at hM
  simp only [tA] at hM
  go_wp2_with fail
  refine hM.mono ?_
  rintro e W2 ⟨rfl, S2, b2, G2, l2, n2⟩
  rw [if_pos trivial] at l2
  have F2 := F1H.out.step G2
  have hb2 : S2.bt = b := G2.bt.trans hbH.out
  have hP := put_any S2 2 tA W2 F2.g (by decide) (by decide) (by have := G2.c; have : (st0 w.heap.size).c = 0 := rfl; omega)
  rw [hb2, l2, n2] at hP
  rw [show putE (insG ⟨⟨#[97]⟩, b2, []⟩ (st0 w.heap.size).l) 2 tA = 0 by kernel_rfl, show putL (insG ⟨⟨#[97]⟩, b2, []⟩ (st0 w.heap.size).l) 2 tA = [⟨tA, b2, [2]⟩] by kernel_rfl, show putN (insG ⟨⟨#[97]⟩, b2, []⟩ (st0 w.heap.size).l) (st0 w.heap.size).ns 2 tA = [] by kernel_rfl] at hP
  simp only [tA] at hP
  have F2H := hidP F2
  have hc2 : Hid (S2.c ≤ 10) := by have := G2.c; have : (st0 w.heap.size).c = 0 := rfl; show _ ≤ _; omega
  have hb2H := hidP hb2
  clear hM G2 F2 l2 n2 F1H hb2
  go_wp2_with fail
  refine hP.mono ?_
  rintro e W3 ⟨rfl, S3, G3, l3, n3⟩
  have F3 := F2H.out.step G3
  have hb3 : S3.bt = b := G3.bt.trans hb2H.out
  have hc3 : S3.c ≤ 20 := by have := G3.c; have := hc2.out; omega
  have hG := gone_any S3 2 W3 F3.g (by decide) (by decide) (by omega)
  rw [hb3, l3, n3] at hG
  rw [show (hm [⟨⟨#[97]⟩, b2, [2]⟩] 2).isSome = true by kernel_rfl, show gonL [⟨⟨#[97]⟩, b2, [2]⟩] 2 = [⟨tA, b2, []⟩] by kernel_rfl, show gonN [⟨⟨#[97]⟩, b2, [2]⟩] [] 2 = [tA] by kernel_rfl] at hG
  have F3H := hidP F3
  have hb3H := hidP hb3
  have hc3H := hidP hc3
  clear hP G3 F3 l3 n3 F2H hb3 hc3 hc2
  go_wp2_with fail
  refine hG.mono ?_
  rintro e W4 ⟨rfl, S4, G4, l4, n4⟩
  have F4 := F3H.out.step G4
  have hb4 : S4.bt = b := G4.bt.trans hb3H.out
  have hc4 : S4.c ≤ 30 := by have := G4.c; have := hc3H.out; omega
  have hE := emptied_any S4 W4 F4.g (by rw [n4]; intro x hx; simp at hx; subst hx; decide)
  rw [hb4, l4, n4] at hE
  rw [show empR [⟨tA, b2, []⟩] [tA] = (some tA, []) by kernel_rfl] at hE
  simp only [tA, ifS, Option.getD_some, Option.isSome_some] at hE
  have F4H := hidP F4
  have hb4H := hidP hb4
  have hc4H := hidP hc4
  clear hG G4 F4 l4 n4 F3H hb4 hc4 hc3H
  go_wp2_with fail
  refine hE.mono ?_
  rintro e W5 ⟨rfl, S5, G5, l5, n5⟩
  have F5 := F4H.out.step G5
  have hb5 : S5.bt = b := G5.bt.trans hb4H.out
  have hc5 : S5.c ≤ 30 := by have := G5.c; have := hc4H.out; omega
  have hE2 := emptied_any S5 W5 F5.g (by rw [n5]; intro x hx; simp at hx)
  rw [hb5, l5, n5] at hE2
  rw [show empR [⟨⟨#[97]⟩, b2, []⟩] [] = (none, []) by kernel_rfl] at hE2
  simp only [ifS, Option.getD_none, Option.isSome_none, noName] at hE2
  have F5H := hidP F5
  have hb5H := hidP hb5
  have hc5H := hidP hc5
  clear hE G5 F5 l5 n5 F4H hb5 hc5 hc4H
  go_wp2_with fail
  refine hE2.mono ?_
  rintro e W6 ⟨rfl, S6, G6, l6, n6⟩
  have F6 := F5H.out.step G6
  have hb6 : S6.bt = b := G6.bt.trans hb5H.out
  have hc6 : S6.c ≤ 30 := by have := G6.c; have := hc5H.out; omega
  have hM2 := make_any S6 tA W6 F6.g (by decide) (by omega)
  rw [hb6, l6, n6] at hM2
  rw [show makeE [⟨⟨#[97]⟩, b2, []⟩] tA = 91 by kernel_rfl] at hM2
  simp only [tA] at hM2
  have F6H := hidP F6
  have hb6H := hidP hb6
  have hc6H := hidP hc6
  clear hE2 G6 F6 l6 n6 F5H hb6 hc6 hc5H
  go_wp2_with fail
  refine hM2.mono ?_
  rintro e W7 ⟨rfl, S7, b7, G7, l7, n7⟩
  rw [if_neg (by simp)] at l7
  have F7 := F6H.out.step G7
  have hb7 : S7.bt = b := G7.bt.trans hb6H.out
  have hc7 : S7.c ≤ 40 := by have := G7.c; have := hc6H.out; omega
  have hP2 := put_any S7 2 tB W7 F7.g (by decide) (by decide) (by omega)
  rw [hb7, l7, n7] at hP2
  rw [show putE [⟨⟨#[97]⟩, b2, []⟩] 2 tB = 90 by kernel_rfl] at hP2
  simp only [tB] at hP2
  have F7H := hidP F7
  clear hM2 G7 F7 l7 n7 F6H hb7 hc7 hc6H
  go_wp2_with fail
  refine hP2.mono ?_
  rintro e W8 ⟨rfl, S8, G8, _, _⟩
  have fin := hidP (F7H.out.step G8).b
  clear hP2 G8 F7H
  go_wp2_with fail
  go_ret
  exact ⟨rfl, fin.out⟩
end Go.Proofs.Ytfmceioiglmepaa
