/- The contract of the laws' known. -/
import Derived.Test.YtcfclknfnadgcaaDoorGD1
namespace Go.Proofs.YtcfclknfnadgcaaDoor
open Go.RowKit Go.Shelf Go.Lib
def aSv : ByteArray := ⟨#[97, 46, 115, 101, 114, 118, 105, 99, 101]⟩
def bSv : ByteArray := ⟨#[98, 46, 115, 101, 114, 118, 105, 99, 101]⟩
theorem known_any (w : World) (hg : GlN w) : Calls Tryd.prog 6 #[] w fun e w' => e = .returned (.bool true) ∧ Below w.heap.size w w' := by
  have hnew := new_any w
  have hgl := hidP hg
  clear hg
  go_enter Tryd.func6, Tryd.ntmps6
  go_wp2_with fail
  refine hnew.mono ?_
  rintro e w1 ⟨S, rfl, hG, hge, hS0, hb1⟩
  have heq : ∀ w, (binOp .eql 25 (.pointer (some ⟨S.gb, 0, none⟩)) (.pointer none)).run Tryd.prog w = .ok (.bool false) w := fun w => by first | kernel_rfl | rfl
  obtain ⟨B, hB⟩ : ∃ B, w1.heap.size = B := ⟨_, rfl⟩
  obtain ⟨W2, hW2⟩ : ∃ W2, w1.alloc (.cells #[.string ⟨#[98, 46, 115, 101, 114, 118, 105, 99, 101]⟩] 9) = W2 := ⟨_, rfl⟩
  have b2 : Below w1.heap.size w1 W2 := by rw [← hW2]; exact (Below.refl _ _).alloc (Nat.le_refl _) _
  have cb : W2.cell? ⟨B, 0, none⟩ = some (.string bSv) := by rw [← hW2]; exact cell_at hB rfl
  have hG2 := hG.below b2
  have glt := hgl.out.lt
  have hu := lit_uv W2 aSv 1 [] [bSv] nilV (.slice (some ⟨B, 0, none⟩) 1 1) true ⟨#[]⟩ (.inl ⟨rfl, none, 0, rfl⟩) (NR.one1 cb)
  have hadd := add_new S [] _ _ W2 hG2 hu (show isN aSv = true by decide +kernel) rfl (by decide) (by rw [rel_core]; decide +kernel) (by rw [tol_core, hS0]; decide +kernel) ((hgl.out.below hb1).below b2) (fun q => by have := hge _ q; omega) (fun q => by have := hge _ q; omega) (fun b hb q => by
    have := hG.lt q
    rcases lit_ubk hb with r | r
    · cases r
    · simp [rbk] at r; omega)
  have bH := hidP (hb1.trans (b2.mono (by have := hb1.size; exact this)))
  have hgeH := hidP hge
  clear hnew hG hge hS0 hb1 b2 cb hG2 hu
  go_wp2_with (rw [hW2])
  refine hadd.mono ?_
  rintro e w3 ⟨rfl, S', cs, hG3, hgo, _⟩
  have hh1 := has_any S' _ w3 hG3 6 bSv aSv (by unfold okE; decide)
  have hh2 := has_any S' _ w3 hG3 6 aSv bSv (by unfold okE; decide)
  have hrm := remove_none S' _ bSv w3 hG3 (by decide) (by rw [lku_cons]; exact (if_neg (show ¬ aSv = bSv by decide)).trans rfl)
  have k1 : decide (0 < kL [(cs, unU aSv 1 [] [bSv] nilV (.slice (some ⟨B, 0, none⟩) 1 1) true ⟨#[]⟩)] (6, bSv, aSv)) = true := by rw [kL_one, tol_core]; decide +kernel
  have k2 : decide (0 < kL [(cs, unU aSv 1 [] [bSv] nilV (.slice (some ⟨B, 0, none⟩) 1 1) true ⟨#[]⟩)] (6, aSv, bSv)) = false := by rw [kL_one, tol_core]; decide +kernel
  rw [k1] at hh1
  rw [k2] at hh2
  rw [hgo.gb] at hh1 hh2 hrm
  have fH : Hid (Below w.heap.size w w3) := bH.out.trans (hgo.mv.toBelow (by have := bH.out.size; exact this) (fun k hk q => by have := hgeH.out k q; omega))
  clear hG3 hgo k1 k2 hadd
  go_wp2_with fail
  refine hh1.mono ?_
  rintro e w4 ⟨rfl, hw4⟩
  replace hw4 := hw4.symm
  subst hw4
  go_wp2_with fail
  refine hh2.mono ?_
  rintro e w4 ⟨rfl, hw4⟩
  replace hw4 := hw4.symm
  subst hw4
  go_wp2_with fail
  refine hrm.mono ?_
  rintro e w4 ⟨rfl, hb4⟩
  have fin : Hid (Below w.heap.size w w4) := fH.out.trans (hb4.mono fH.out.size)
  clear hb4 hh1 hh2 hrm
  go_wp2_with fail
  go_ret
  exact ⟨rfl, fin.out⟩
end Go.Proofs.YtcfclknfnadgcaaDoor
