/- Contracts of package civil's monthLength, isTime, Is. -/
import Derived.Test.YteaaknbininehabDoorC1
namespace Go.Proofs.YteaaknbininehabDoor
open Go.RowKit
def lenOf (m : Int) : Int := if m = 2 then 28 else if m = 4 ∨ m = 6 ∨ m = 9 ∨ m = 11 then 30 else 31
theorem dim_2 {y : Int} (h : Civ.lpB y = true) : Civ.dim y 2 = 29 := by unfold Civ.dim; rw [if_pos rfl, lp_yes h]; rfl
theorem dim_2n {y : Int} (h : Civ.lpB y = false) : Civ.dim y 2 = 28 := by unfold Civ.dim; rw [if_pos rfl, lp_no h]; rfl
theorem len_at {w : World} (hT : LenIn w) {m : Int} (h0 : 1 ≤ m) (h1 : m ≤ 12) : w.cell? ⟨1, (m - 1).toNat, none⟩ = some (.int .i64 (lenOf m)) := by
  have hm : m = 1 ∨ m = 2 ∨ m = 3 ∨ m = 4 ∨ m = 5 ∨ m = 6 ∨ m = 7 ∨ m = 8 ∨ m = 9 ∨ m = 10 ∨ m = 11 ∨ m = 12 := by omega
  rcases hm with rfl | rfl | rfl | rfl | rfl | rfl | rfl | rfl | rfl | rfl | rfl | rfl
  all_goals exact hT _ _ rfl
theorem dim_len {y m : Int} (h : ¬ (m = 2 ∧ Civ.lpB y = true)) : Civ.dim y m = lenOf m := by
  unfold Civ.dim lenOf
  by_cases hm : m = 2
  · rw [if_pos hm, if_pos hm]
    have : Civ.lpB y = false := by
      cases hb : Civ.lpB y
      · rfl
      · exact absurd ⟨hm, hb⟩ h
    rw [lp_no this]; rfl
  · rw [if_neg hm, if_neg hm]
set_option maxHeartbeats 400000 in
theorem length_any (y m : Int) (w : World) (hT : LenIn w) (h0 : 0 ≤ y) (h1 : y ≤ 100000) (m0 : 1 ≤ m) (m1 : m ≤ 12) :
    Calls Tryd.prog 63 #[.int .i64 y, .int .i64 m] w fun e w' => e = .returned (.int .i64 (Civ.dim y m)) ∧ w' = w := by
  have hc := len_at hT m0 m1
  by_cases hm : m = 2
  · subst hm
    have hc' : w.cell? ⟨1, 1, none⟩ = some (.int .i64 28) := hc
    clear hc
    cases hb : Civ.lpB y
    · have he : Hid (Civ.dim y 2 = 28) := dim_2n hb
      go_enter Tryd.func63, Tryd.ntmps63
      go_wp2_with (go_at_call 78; refine (isLeap_any _ _ (by omega) (by omega)).mono ?_; rintro e w' ⟨rfl, rfl⟩)
      go_ret
      exact ⟨ret_int he.out.symm, rfl⟩
    · have he : Hid (Civ.dim y 2 = 29) := dim_2 hb
      go_enter Tryd.func63, Tryd.ntmps63
      go_wp2_with (go_at_call 78; refine (isLeap_any _ _ (by omega) (by omega)).mono ?_; rintro e w' ⟨rfl, rfl⟩)
      go_ret
      exact ⟨ret_int he.out.symm, rfl⟩
  · have he : Hid (Civ.dim y m = lenOf m) := dim_len (by rintro ⟨h, _⟩; exact hm h)
    have hm' : m = 1 ∨ m = 3 ∨ m = 4 ∨ m = 5 ∨ m = 6 ∨ m = 7 ∨ m = 8 ∨ m = 9 ∨ m = 10 ∨ m = 11 ∨ m = 12 := by omega
    clear hm
    rcases hm' with rfl | rfl | rfl | rfl | rfl | rfl | rfl | rfl | rfl | rfl | rfl
    all_goals
      simp [lenOf] at hc
      go_enter Tryd.func63, Tryd.ntmps63
      go_wp2
      go_ret
      exact ⟨ret_int he.out.symm, rfl⟩
set_option maxHeartbeats 1000000 in
theorem isTime_any (y m d h mi s : Int) (w : World) :
    Calls Tryd.prog 37 #[.agg #[.int .i64 y, .int .i64 m, .int .i64 d, .int .i64 h, .int .i64 mi, .int .i64 s]] w fun e w' => e = .returned (.bool (Civ.timB h mi s)) ∧ Below w.heap.size w w' := by
  go_enter Tryd.func37, Tryd.ntmps37
  go_wp2
  all_goals go_ret
  all_goals refine ⟨ret_bool ?_, (Below.refl _ _).alloc (Nat.le_refl _) _⟩
  all_goals unfold Civ.timB
  all_goals (rw [Bool.eq_iff_iff]; simp at *; omega)
theorem vld_mon {y m d : Int} (h : Civ.monB y m = false) : Civ.vldB y m d = false := by
  cases hv : Civ.vldB y m d
  · rfl
  · obtain ⟨a, b, c, e, _⟩ := Civ.vldB_iff.1 hv
    rw [Civ.monB_iff.2 ⟨a, b, c, e⟩] at h; cases h
theorem LenIn.below {n : Nat} {w w' : World} (h : LenIn w) (hn : 1 < n) (hb : Below n w w') : LenIn w' := fun j v hv => (hb.cell (p := ⟨1, j, none⟩) hn).trans (h j v hv)
theorem LenIn.pos {w : World} (h : LenIn w) : 1 < w.heap.size := by
  rcases Nat.lt_or_ge 1 w.heap.size with hl | hl
  · exact hl
  · have h0 := h 0 31 rfl
    have : w.cell? ⟨1, 0, none⟩ = none := by
      unfold World.cell?
      rw [Array.getElem?_eq_none hl]
    rw [this] at h0; cases h0
theorem LenIn.alloc {w : World} (h : LenIn w) (o : Obj) : LenIn (w.alloc o) := h.below h.pos ((Below.refl _ _).alloc (Nat.le_refl _) o)
end Go.Proofs.YteaaknbininehabDoor
