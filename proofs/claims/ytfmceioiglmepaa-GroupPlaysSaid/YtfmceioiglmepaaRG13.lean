/- The reference's Put where nothing is put. -/
import Derived.Test.YtfmceioiglmepaaRG12
namespace Go.Proofs.Ytfmceioiglmepaa
open Go.RowKit Go.Shelf Go.Lib
set_option maxRecDepth 100000 in
theorem rput_none (R : Rt) (a : Int) (s : ByteArray) (w : World) (h : Rs w R) (hl : R.l.length ≤ 1000) (ht : thereR R.l s = false) :
    Calls Try.prog 13 #[.pointer (some ⟨R.b, 0, none⟩), .int .i64 a, .string s] w fun e w' => e = .returned (.int .i64 90) ∧ Below w.heap.size w w' := by
  have hat := hidP (rat_any R s w h hl)
  rw [ht] at hat
  clear h ht
  go_enter Try.func13, Try.ntmps13
  go_wp2_with fail
  refine hat.out.mono ?_
  rintro e w1 ⟨rfl, hb1⟩
  clear hat
  go_wp2_with fail
  go_ret
  exact ⟨rfl, hb1⟩
set_option maxRecDepth 100000 in
theorem rput_small (R : Rt) (a : Int) (s : ByteArray) (w : World) (h : Rs w R) (hl : R.l.length ≤ 1000) (ht : thereR R.l s = true) (ha : a < 2) :
    Calls Try.prog 13 #[.pointer (some ⟨R.b, 0, none⟩), .int .i64 a, .string s] w fun e w' => e = .returned (.int .i64 90) ∧ Below w.heap.size w w' := by
  have hat := hidP (rat_any R s w h hl)
  rw [ht] at hat
  clear h ht
  go_enter Try.func13, Try.ntmps13
  go_wp2_with fail
  refine hat.out.mono ?_
  rintro e w1 ⟨rfl, hb1⟩
  clear hat
  go_wp2_with fail
  go_ret
  exact ⟨rfl, hb1⟩
set_option maxRecDepth 100000 in
theorem rput_same (R : Rt) (a : Int) (s : ByteArray) (x : RG) (w : World) (h : Rs w R) (hl : R.l.length ≤ 1000) (hp : ∀ x ∈ R.l, x.ps.length ≤ 1000) (ht : thereR R.l s = true) (ha : 2 ≤ a) (hh : hmR R.l a = some x) (hx : x.nm = s) :
    Calls Try.prog 13 #[.pointer (some ⟨R.b, 0, none⟩), .int .i64 a, .string s] w fun e w' => e = .returned (.int .i64 0) ∧ Below w.heap.size w w' := by
  have hat := hidP (rat_any R s w h hl)
  rw [ht] at hat
  have ha2 : ¬ a < 2 := by omega
  have hH := hidP h
  have hOf := hidP (fun w1 (h1 : Rs w1 R) => rof_any R a w1 h1 hl hp)
  rw [hh] at hOf
  simp only [Option.map_some, Option.getD_some, Option.isSome_some, hx] at hOf
  clear h ht ha hh hx hp
  go_enter Try.func13, Try.ntmps13
  go_wp2_with fail
  refine hat.out.mono ?_
  rintro e w1 ⟨rfl, hb1⟩
  clear hat
  have hO := hidP (hOf.out w1 (hH.out.below hb1))
  have hbH := hidP hb1
  clear hOf hb1
  go_wp2_with fail
  refine hO.out.mono ?_
  rintro e w2 ⟨rfl, rfl⟩
  clear hO
  go_wp2_with fail
  go_ret
  exact ⟨rfl, hbH.out⟩
end Go.Proofs.Ytfmceioiglmepaa
