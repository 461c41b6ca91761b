/- The tables in a world; contracts of strconv.Itoa, of package civil's twoDigits. -/
import Derived.Test.YtgogbbhbkckfgaaDoorU1
import Derived.Test.YtgogbbhbkckfgaaDoorShelf
import Derived.Test.YtgogbbhbkckfgaaDoorMathT
import Derived.WalkSmall
import Derived.Deep.RegionHeld3
namespace Go.Proofs.YtgogbbhbkckfgaaDoor
open Go.RowKit Go.Sort
theorem gPow : Tryd.prog.globalNamed "internal/strconv.uint64pow10" = some 1 := by kernel_rfl
/-- The lengths of the months, the powers of ten. -/
structure TabP (w : World) : Prop where
  len : LenIn w
  pw : Lib.TabIs Tryd.prog w "internal/strconv.uint64pow10" .u64 Lib.pow10Tab
  sz : 4 ≤ w.heap.size
theorem TabP.below {w w' : World} (h : TabP w) (hb : Below w.heap.size w w') : TabP w' :=
  ⟨h.len.below h.len.pos hb, var?_below hb gPow (Nat.lt_of_lt_of_le (by decide) h.sz) h.pw, Nat.le_trans h.sz hb.size⟩
theorem TabP.alloc {w : World} (h : TabP w) (o : Obj) : TabP (w.alloc o) := h.below ((Below.refl _ _).alloc (Nat.le_refl _) o)
theorem TabP.drew {w : World} (h : TabP w) : TabP w.drew := h.below ((Below.refl _ _).drew)
theorem below_grow (w : World) (os : Array Obj) : Below w.heap.size w (grow w os) :=
  ⟨rfl, rfl, rfl, by simp [grow], fun k hk => by simp [grow, Array.getElem?_append, hk]⟩
theorem itoa4_any (n : Nat) (h0 : 1000 ≤ n) (h1 : n < 10000) (w : World) (hT : TabP w) :
    Calls Tryd.prog 33 #[.int .i64 n] w fun e w' => e = .returned (.string ⟨(Civ.d4 n).toArray⟩) ∧ Below w.heap.size w w' :=
  (Tryd.strconv_Itoa n (by omega) (by omega) w hT.pw).mono fun e w' ⟨he, k, os, hw⟩ => ⟨by rw [he, Civ.itoa_d4 h0 h1], by
    rw [hw]
    exact (below_drewN w k).trans ((below_grow (w.drewN k) os).mono (below_drewN w k).size)⟩
set_option maxHeartbeats 400000 in
theorem two_any (n : Nat) (h1 : n < 100) (w : World) :
    Calls Tryd.prog 34 #[.int .i64 n] w fun e w' => e = .returned (.string ⟨(Civ.d2 n).toArray⟩) ∧ w' = w := by
  have hi := fun w => Tryd.strconv_Itoa_small n h1 w
  by_cases h : n < 10
  · have hd : Hid ([48] ++ Lib.decDigits n = Civ.d2 n) := Civ.dec_d1 h
    have hl : (Lib.decDigits n).length ≤ 1 := by rw [Lib.decDigits_one h]; simp
    have hadd : ∀ W, (Op.stringOp .add ⟨#[48]⟩ ⟨(Lib.decDigits n).toArray⟩).run Tryd.prog W = .ok (.string ⟨([48] ++ Lib.decDigits n).toArray⟩) W := fun W => run_string_add_lists W [48] _ (by simp) (by omega)
    go_enter Tryd.func34, Tryd.ntmps34
    go_wp2_with fail
    refine (hi _).mono ?_
    rintro e w1 ⟨rfl, rfl⟩
    go_wp2_with fail
    go_ret
    exact ⟨by rw [← hd.out]; rfl, rfl⟩
  · have hd := Civ.dec_d2 (n := n) (by omega) h1
    rw [hd] at hi
    clear hd
    go_enter Tryd.func34, Tryd.ntmps34
    go_wp2_with fail
    refine (hi _).mono ?_
    rintro e w1 ⟨rfl, rfl⟩
    go_wp2_with fail
    go_ret
    exact ⟨rfl, rfl⟩
end Go.Proofs.YtgogbbhbkckfgaaDoor
