/- Whether one is ahead of another. -/
import Derived.Test.YtcjlkhgnohdonaaQiT
namespace Go.Proofs.Ytcjlkhgnohdonaa.Qi
open Go.RowKit Go.Shelf Go.Lib
attribute [local go_sem] Oper.semAt_some
/-- A function that tells whether one's key is less than another's. -/
structure Bf (nb : Nat) (key : El → Int) : Prop where
  eg : ∀ args w, (callFunc nb args).run Try.prog w = .ok (.enter nb args) w
  ca : ∀ (a b : El) (w : World), Calls Try.prog nb #[ev a, ev b] w fun e w' => e = .returned (.bool (decide (key a < key b))) ∧ Below w.heap.size w w'
def fnV (nb : Nat) : Value := .func (.func nb) #[] #[]
set_option maxRecDepth 100000 in
set_option maxHeartbeats 1000000 in
theorem ahead_any {nb : Nat} {key : El → Int} (hB : Bf nb key) (q : Nat) (a b : El) (w : World) (hq : w.cell? ⟨q, 0, none⟩ = some (fnV nb)) :
    Calls Try.prog 76 #[.pointer (some ⟨q, 0, none⟩), ev a, ev b] w fun e w' => e = .returned (.bool (decide (key a < key b))) ∧ Below w.heap.size w w' := by
  have hC := hB.ca a b w
  have eg := hB.eg
  have hne : ∀ w, (binOp .neq 37 (.func (.func nb) #[] #[]) Value.nilFunc).run Try.prog w = .ok (.bool true) w := fun w => by first | kernel_rfl | rfl
  unfold fnV at hq
  obtain ⟨va, hva⟩ : ∃ v, ev a = v := ⟨_, rfl⟩
  obtain ⟨vb, hvb⟩ : ∃ v, ev b = v := ⟨_, rfl⟩
  rw [hva, hvb] at hC ⊢
  clear hB hva hvb
  go_enter Try.func76, Try.ntmps76
  go_wp2_with fail
  refine hC.mono ?_
  rintro e w' ⟨rfl, hb⟩
  go_wp2_with fail
  go_ret
  exact ⟨rfl, hb⟩
end Go.Proofs.Ytcjlkhgnohdonaa.Qi
