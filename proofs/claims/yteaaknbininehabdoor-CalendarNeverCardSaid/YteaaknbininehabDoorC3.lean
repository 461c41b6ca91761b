/- The contract of package civil's Is. -/
import Derived.Test.YteaaknbininehabDoorC2
namespace Go.Proofs.YteaaknbininehabDoor
open Go.RowKit
theorem below_drewN (w : World) (n : Nat) : Below w.heap.size w (w.drewN n) := by
  induction n with
  | zero => exact Below.refl _ _
  | succ n ih => exact ih.drew
theorem below_drew {w w' : World} (h : Below w.heap.size w w') (k : Nat) : Below w.heap.size w (w'.drewN k) := h.trans ((below_drewN w' k).mono h.size)
set_option maxHeartbeats 4000000 in
theorem is_any (y m d : Int) (w : World) (hT : LenIn w) :
    Calls Tryd.prog 40 #[.agg #[.int .i64 y, .int .i64 m, .int .i64 d]] w fun e w' => e = .returned (.bool (Civ.vldB y m d)) ∧ Below w.heap.size w w' := by
  have hT1 := hT.alloc (.cells #[.int .i64 y, .int .i64 m, .int .i64 d] 35)
  have hfin : ∀ nq, Below w.heap.size w ((w.alloc (.cells #[.int .i64 y, .int .i64 m, .int .i64 d] 35)).drewN nq) := fun nq => below_drew ((Below.refl _ _).alloc (Nat.le_refl _) _) nq
  have hT2 : ∀ nq, LenIn ((w.alloc (.cells #[.int .i64 y, .int .i64 m, .int .i64 d] 35)).drewN nq) := fun nq => hT.below hT.pos (hfin nq)
  cases hm : Civ.monB y m
  · have he : Hid (Civ.vldB y m d = false) := vld_mon hm
    go_enter Tryd.func40, Tryd.ntmps40
    go_wp2
    go_quiet ((go_at_call 62; exact Calls.quiet_of_same (isMonth_any _ _ _)))
    go_wp2
    go_ret
    exact ⟨ret_bool he.out.symm, hfin _⟩
  · obtain ⟨y0, y1, m0, m1⟩ := Civ.monB_iff.1 hm
    by_cases h3 : 1 ≤ d
    · have he : Hid (Civ.vldB y m d = decide (d ≤ Civ.dim y m)) := by
        show _ = _
        unfold Civ.vldB; rw [Bool.eq_iff_iff]; simp; omega
      go_enter Tryd.func40, Tryd.ntmps40
      go_wp2
      go_quiet ((first | (go_at_call 62; exact Calls.quiet_of_same (isMonth_any _ _ _)) | (go_at_call 63; exact Calls.quiet_of_same (length_any _ _ _ (by assumption) (by omega) (by omega) (by omega) (by omega)))))
      go_wp2
      go_ret
      exact ⟨ret_bool he.out.symm, hfin _⟩
    · have hd : decide (1 ≤ d) = false := by simpa using h3
      have he : Hid (Civ.vldB y m d = false) := by
        show _ = _
        unfold Civ.vldB; rw [Bool.eq_false_iff]; simp; omega
      go_enter Tryd.func40, Tryd.ntmps40
      go_wp2
      go_quiet ((go_at_call 62; exact Calls.quiet_of_same (isMonth_any _ _ _)))
      go_wp2
      go_ret
      exact ⟨ret_bool he.out.symm, hfin _⟩
end Go.Proofs.YteaaknbininehabDoor
