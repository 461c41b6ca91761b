/- QueueAll is true: going through a queue of integers, again and again, and leaving it anywhere, tells each time the same elements from the first on, as far as it is asked, and takes nothing out; no condition. -/
import Derived.Test.YtcjlkhgnohdonaaRows
import Derived.Test.YtcjlkhgnohdonaaLA4
import Derived.Test.YtcjlkhgnohdonaaRowG
import Derived.SizedLaws
import Derived.WalkKit
import Derived.ProofKit
import Derived.OpenShut
namespace Go.Proofs.Ytcjlkhgnohdonaa.queueAll
open Go.ChangeShapes Go.WideShapes Go.ChangeAt Go.RowKit
theorem own : ownKnob Try.prog.godebug = none := by kernel_rfl
theorem laidOut : laidOutB Try.prog = true := by kernel_rfl
set_option maxRecDepth 100000 in
theorem lifted (os : Os) (started : os.Started) (H : Type) (enc : TypeId × Value → H) :
    ReturnsInHanded {} Try.checked os 5 .any (Rows.queueAllSpec.pre6 enc Try.prog Try.f5 Rows.queueAllRow.domain false) (Rows.queueAllSpec.post enc Try.prog Try.f5 false true false false) := by
  refine returnsInHanded_of_change_sized (C := Try.checked) own started (by kernel_rfl) Try.func5
    (ChangeSpec.witness6 (enc := enc) (C := Try.checked) false ⟨#[], #[.slice none 0 0, .slice none 0 0], []⟩ 8 (by kernel_rfl) (by kernel_rfl) (by kernel_rfl) (by kernel_rfl)) ?_
  intro W base args ds gs before hval0 hW _ hz _
  have hval : ∀ (j : Nat) t v, Try.f5.params[j]? = some t → args[j]? = some v → Value.okWide Try.prog W .any base t v := hval0
  have hW' := hW
  obtain ⟨p, q, hA0, hV, rfl, hfz, hnd⟩ := hW
  have hA : DataW.TrodAll enc Try.prog W 0 (fun _ => true) true Try.f5.params.toList args.toList ds p := hA0
  rw [Try.params5] at hA hval
  obtain ⟨v0, vs0, d0, ds0, p0, q0, hargs, rfl, rfl, h0, r0⟩ := trodAll_cons hA
  obtain ⟨v1, vs1, d1, ds1, p1, q1, rfl, rfl, rfl, h1, r1⟩ := trodAll_cons r0
  obtain ⟨rfl, rfl, rfl⟩ := trodAll_nil r1
  obtain rfl : args = #[v0, v1] := Array.toList_inj.1 hargs
  obtain ⟨rfl, rfl⟩ := trodVars_none hV
  have k0 := h0
  have lt0 : ∀ x ∈ p0, x.block < W.heap.size := by
    obtain ⟨m, hm⟩ := k0
    exact DataW.trod_lt m _ _ _ hm
  have rd0 := rd_of_trod (j := 0) (t := 33) h0 hz (by rw [Try.params5]; rfl) rfl
  obtain ⟨a0, len0, cap0, rfl⟩ := okWide_slice Try.underlying33 (hval 0 33 v0 rfl rfl)
  obtain ⟨pp0, cc0, l0, e0, hr0, hl0⟩ := rd_row1 (α := Int) (v := .slice a0 len0 cap0) rd0 Try.underlying33 (by kernel_rfl) (by decide +kernel) (fun x => .int .i16 x) (fun x => (Lit.int .i16 x).wf = true) (fun cs hr => by obtain ⟨n, e, hw⟩ := rd_int hr Try.underlying39; exact ⟨n, hw, e⟩)
  injection e0 with e0a e0b e0c
  subst e0a; subst e0b; subst e0c
  have k1 := h1
  have lt1 : ∀ x ∈ p1, x.block < W.heap.size := by
    obtain ⟨m, hm⟩ := k1
    exact DataW.trod_lt m _ _ _ hm
  have rd1 := rd_of_trod (j := 1) (t := 43) h1 hz (by rw [Try.params5]; rfl) rfl
  obtain ⟨a1, len1, cap1, rfl⟩ := okWide_slice Try.underlying43 (hval 1 43 v1 rfl rfl)
  obtain ⟨pp1, cc1, l1, e1, hr1, hl1⟩ := rd_row1 (α := Int) (v := .slice a1 len1 cap1) rd1 Try.underlying43 (by kernel_rfl) (by decide +kernel) (fun x => .int .u8 x) (fun x => (Lit.int .u8 x).wf = true) (fun cs hr => by obtain ⟨n, e, hw⟩ := rd_int hr Try.underlying5; exact ⟨n, hw, e⟩)
  injection e1 with e1a e1b e1c
  subst e1a; subst e1b; subst e1c
  clear hA0 hval0 hz
  refine (alls_own a0 cap0 l0 a1 cap1 l1 W hr0 hl0 hr1 hl1).mono fun e W' ⟨he, hb⟩ => ?_
  subst he
  exact ⟨_, rfl, _, _, _, [], _, [], hW', trodAll_cons_mk (shut_bool Try.underlying4 _) trodAll_mk0, (trodAll_cons_mk (Below.trod laidOut (by kernel_rfl) (of_decide_eq_true (by kernel_rfl)) k0 hb lt0) (trodAll_cons_mk (Below.trod laidOut (by kernel_rfl) (of_decide_eq_true (by kernel_rfl)) k1 hb lt1) trodAll_mk0)), rfl, hb.frame _, fun h => by cases h⟩
theorem over : Rows.queueAllRow.holds Try.pinned (OpenSpec.ofChange Rows.queueAllSpec) :=
  OpenClaim.holds_of_wide 5 Try.f5 rfl rfl rfl rfl rfl rfl rfl ⟨rfl, rfl, rfl, rfl, rfl⟩ rfl rfl rfl rfl rfl (by kernel_rfl) Try.func5 (by kernel_rfl)
    (of_decide_eq_true (by kernel_rfl)) (by unfold Func.isWrapper; first | (rw [if_pos (by decide +kernel)]; kernel_rfl) | (rw [if_neg (by decide +kernel)]; exact ⟨rfl, rfl⟩))
    (fun os started H enc _ => lifted os started H enc)
end Go.Proofs.Ytcjlkhgnohdonaa.queueAll
namespace Go.Proofs.Ytcjlkhgnohdonaa
theorem queueAll_holds : Rows.QueueAllSaid := queueAll.over
end Go.Proofs.Ytcjlkhgnohdonaa
