/- The walk of the law CalendarNever. -/
import Derived.Test.YtlpheplifjeffaaDoorZI
import Derived.Test.YtlpheplifjeffaaDoorZH
namespace Go.Proofs.YtlpheplifjeffaaDoor
open Go.RowKit
theorem known_any (w : World) (hg : GlP w) : Calls Tryd.prog 6 #[] w fun e w' => e = .returned (.bool true) ∧ Below w.heap.size w w' :=
  known_of w hg (fun y w h => by
    rcases h with rfl | rfl
    · exact rUnix_yes 2024 2 29 0 0 0 w (by decide +kernel) (by decide +kernel)
    · exact rUnix_yes 2028 2 29 0 0 0 w (by decide +kernel) (by decide +kernel))
def xN (M D : Int) : Cal.C7 := ⟨[], [(true, 0, 0, 0)], [(false, M, M, 0)], [(false, D, D, 0)], [(false, 0, 0, 0)], [(false, 0, 0, 0)], [(false, 0, 0, 0)]⟩
def sC : ByteArray := ⟨#[42, 45, 48, 50, 45, 51, 48]⟩
theorem fC (w : World) (hg : GlP w) : Calls Tryd.prog 12 #[.string (spell sC)] w (FldP w (some (xN 2 30))) := by
  rw [show spell sC = sC by decide +kernel]
  exact fieldsD sC w hg (by decide) (by decide +kernel) (by decide +kernel) (by decide +kernel) _ _ _ _ _ _ (by kernel_rfl) clk0
theorem pCc (w : World) (hg : GlP w) : Calls Tryd.prog 7 #[.string sC] w (ParP w (xN 2 30)) := parse_yes sC w hg _ (by decide +kernel) fC
theorem lp_le (y : Int) : Civ.lp y ≤ 1 := by
  unfold Civ.lp
  split <;> omega
theorem nxC (t : Int) : Cal.nx (xN 2 30) t = none := never_nx _ 2 30 rfl rfl (fun y => by have := lp_le y; unfold Civ.dim; simp; omega) t
set_option maxRecDepth 100000 in
set_option maxHeartbeats 1000000 in
theorem never_at (n0 n1 k : Nat) (m : ByteArray) (M : Int) (w : World) (hg : GlP w) (h0 : n0 < 256) (h1 : n1 < 256) (hk : n0 % 5 = k) (hms : m.size = 2)
    (hm : ∀ h : k < 5, ([Value.string ⟨#[48, 50]⟩, .string ⟨#[48, 52]⟩, .string ⟨#[48, 54]⟩, .string ⟨#[48, 57]⟩, .string ⟨#[49, 49]⟩] : List Value)[k]'h = .string m)
    (hP : Hid (∀ w, GlP w → Calls Tryd.prog 7 #[.string (⟨#[42, 45]⟩ ++ m ++ ⟨#[45, 51, 49]⟩)] w (ParP w (xN M 31)))) (hI : isB (xN M 31) = true) (hX : ∀ t, Cal.nx (xN M 31) t = none) :
    Calls Tryd.prog 5 #[.int .u8 n0, .int .u8 n1] w fun e w' => e = .returned (.bool true) ∧ Below w.heap.size w w' := by
  have hkn := known_any w hg
  have hki : (n0 : Int) % 5 = (k : Int) := by omega
  have hk5 : k < 5 := by omega
  have hm' := hm hk5
  clear hm
  go_enter Tryd.func5, Tryd.ntmps5
  go_wp2_with fail
  refine hkn.mono ?_
  rintro e w1 ⟨rfl, hb1⟩
  clear hkn
  have hg1 := hg.below hb1
  have hB1 : Below w1.heap.size w1 (w1.alloc (.cells #[Value.string ⟨#[48, 50]⟩, .string ⟨#[48, 52]⟩, .string ⟨#[48, 54]⟩, .string ⟨#[48, 57]⟩, .string ⟨#[49, 49]⟩] 40)) := (Below.refl _ _).alloc (Nat.le_refl _) _
  have hPa := hP.out _ (hg1.below hB1)
  go_wp2_with fail
  refine hPa.mono ?_
  rintro e w2 ⟨S, rfl, hb2, hp⟩
  clear hPa hm' hki
  have hb12 : Below w1.heap.size w1 w2 := hB1.trans (hb2.mono hB1.size)
  have hBb : Below w2.heap.size w2 (w2.alloc (.cells #[slv (S 0), slv (S 1), slv (S 2), slv (S 3), slv (S 4), slv (S 5), slv (S 6)] 26)) := (Below.refl _ _).alloc (Nat.le_refl _) _
  have hg2 := (hg1.below hb12).below hBb
  have hN := next_any S (xN M 31) ((n1 : Int) * 20000000) (w2.alloc (.cells #[slv (S 0), slv (S 1), slv (S 2), slv (S 3), slv (S 4), slv (S 5), slv (S 6)] 26)) (hp.below hBb) hg2.gl (by omega)
  rw [hI, hX] at hN
  simp only [if_true, Option.getD_none, Option.isSome_none, Bool.and_false] at hN
  have hmul : IntKind.i64.wrap ((n1 : Int) * 20000000) = (n1 : Int) * 20000000 := by rw [IntKind.wrap_i64]; omega
  go_wp2_with fail
  refine hN.mono ?_
  rintro e w3 ⟨rfl, hb3⟩
  clear hN hmul
  have hb13 : Below w1.heap.size w1 w3 := hb12.trans ((hBb.trans (hb3.mono hBb.size)).mono hb12.size)
  have hg3 := hg1.below hb13
  have hPc := pCc w3 hg3
  unfold sC at hPc
  go_wp2_with fail
  refine hPc.mono ?_
  rintro e w4 ⟨S', rfl, hb4, hp'⟩
  clear hPc
  have hBc : Below w4.heap.size w4 (w4.alloc (.cells #[slv (S' 0), slv (S' 1), slv (S' 2), slv (S' 3), slv (S' 4), slv (S' 5), slv (S' 6)] 26)) := (Below.refl _ _).alloc (Nat.le_refl _) _
  have hg4 := (hg3.below hb4).below hBc
  have hN := next_any S' (xN 2 30) 0 (w4.alloc (.cells #[slv (S' 0), slv (S' 1), slv (S' 2), slv (S' 3), slv (S' 4), slv (S' 5), slv (S' 6)] 26)) (hp'.below hBc) hg4.gl (by decide)
  rw [show isB (xN 2 30) = true by decide +kernel, nxC] at hN
  simp only [if_true, Option.getD_none, Option.isSome_none, Bool.and_false] at hN
  go_wp2_with fail
  refine hN.mono ?_
  rintro e w5 ⟨rfl, hb5⟩
  clear hN
  have hb15 : Below w1.heap.size w1 w5 := hb13.trans ((hb4.trans ((hBc.trans (hb5.mono hBc.size)).mono hb4.size)).mono hb13.size)
  have hbz := hb1.trans (hb15.mono hb1.size)
  clear hb3 hb4 hb5 hb13 hb15 hBc hBb hb2 hb12 hB1
  go_wp2_with fail
  go_ret
  exact ⟨rfl, hbz⟩
end Go.Proofs.YtlpheplifjeffaaDoor
