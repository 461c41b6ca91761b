/- The reference's Remove where it says no. -/
import Derived.Test.YtfmceioiglmepaaRG11
namespace Go.Proofs.Ytfmceioiglmepaa
open Go.RowKit Go.Shelf Go.Lib
set_option maxRecDepth 100000 in
theorem rremove_none (R : Rt) (s : ByteArray) (w : World) (h : Rs w R) (hl : R.l.length ≤ 1000) (ht : thereR R.l s = false) :
    Calls Try.prog 11 #[.pointer (some ⟨R.b, 0, none⟩), .string s] w fun e w' => e = .returned (.int .i64 90) ∧ Below w.heap.size w w' := by
  have hat := hidP (rat_any R s w h hl)
  rw [ht] at hat
  clear h ht
  go_enter Try.func11, Try.ntmps11
  go_wp2_with fail
  refine hat.out.mono ?_
  rintro e w1 ⟨rfl, hb1⟩
  clear hat
  go_wp2_with fail
  go_ret
  exact ⟨rfl, hb1⟩
set_option maxRecDepth 100000 in
set_option maxHeartbeats 800000 in
theorem rremove_busy (R : Rt) (s : ByteArray) (i : Nat) (x : RG) (w : World) (h : Rs w R) (hl : R.l.length ≤ 1000) (ht : thereR R.l s = true) (hi : atP R.l s = i) (hx : R.l[i]? = some x) (hp : x.ps ≠ []) :
    Calls Try.prog 11 #[.pointer (some ⟨R.b, 0, none⟩), .string s] w fun e w' => e = .returned (.int .i64 91) ∧ Below w.heap.size w w' := by
  have hat := hidP (rat_any R s w h hl)
  rw [ht, hi] at hat
  obtain ⟨n, hnn⟩ : ∃ n, R.l.length = n := ⟨_, rfl⟩
  have hil : i < n := by rw [← hnn]; exact (List.getElem?_eq_some_iff.1 hx).1
  have hiI : (i : Int) < (n : Int) := by omega
  obtain ⟨m, hm⟩ : ∃ m, x.ps.length = m := ⟨_, rfl⟩
  have hm0 : (0 : Int) < (m : Int) := by have := List.length_pos_iff.2 hp; omega
  rw [hnn] at hl
  have hnnH := hidP hnn
  have hH := hidP h
  have hxH := hidP hx
  have hmH := hidP hm
  clear h hi hnn hx hp ht hm
  go_enter Try.func11, Try.ntmps11
  go_wp2_with fail
  refine hat.out.mono ?_
  rintro e w1 ⟨rfl, hb1⟩
  clear hat
  have h1 := hH.out.below hb1
  obtain ⟨g, cap, e1, _, e3⟩ := h1.at hxH.out
  have c0 := h1.c0
  rw [e1, hnnH.out] at c0
  have hIR := (h1.ps x (List.mem_of_getElem? hxH.out)).1
  obtain ⟨q, d, hv, _⟩ := hIR
  rw [hv, hmH.out] at e3
  have hbH := hidP hb1
  clear h1 hb1 e1 hv
  go_wp2_with fail
  go_ret
  exact ⟨rfl, hbH.out⟩
end Go.Proofs.Ytfmceioiglmepaa
