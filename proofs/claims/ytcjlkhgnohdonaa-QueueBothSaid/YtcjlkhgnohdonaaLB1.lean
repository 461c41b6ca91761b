/- Two queues beside each other. -/
import Derived.Test.YtcjlkhgnohdonaaQK
import Derived.Test.YtcjlkhgnohdonaaRW
namespace Go.Proofs.Ytcjlkhgnohdonaa
open Go.RowKit Go.Shelf Go.Lib
attribute [local go_sem] Oper.semAt_some
/-- A queue by rising order and one by falling order, apart, all of it new behind w0. -/
def Bo (w0 W : World) (qa qb : Nat) (La Lb : List Int) (ka kb : Nat) : Prop :=
  ∃ Ea Ba Eb Bb, Qi.Qu 13 (fun x => x) W qa Ea Ba La ka ∧ Qi.Qu 14 (fun x => -x) W qb Eb Bb Lb kb ∧ (∀ k, Ea k ∨ Ba k → w0.heap.size ≤ k ∧ ¬ (Eb k ∨ Bb k)) ∧ (∀ k, Eb k ∨ Bb k → w0.heap.size ≤ k) ∧ Below w0.heap.size w0 W
theorem Bo.a {w0 W : World} {qa qb : Nat} {La Lb La' : List Int} {ka kb ka' f : Nat} {args : Array Value} {R : Ending → Prop} (h : Bo w0 W qa qb La Lb ka kb) (hc : ∀ E B, Qi.Qu 13 (fun x => x) W qa E B La ka → Calls Try.prog f args W fun e V => R e ∧ Qi.Qg 13 (fun x => x) W qa E B La' ka' V) : Calls Try.prog f args W fun e V => R e ∧ Bo w0 V qa qb La' Lb ka' kb := by
  obtain ⟨Ea, Ba, Eb, Bb, h1, h2, h3, h4, h5⟩ := h
  refine (hc Ea Ba h1).mono ?_
  rintro e V ⟨hR, E', B', q1, q2, q3, q4⟩
  have sz := h5.size
  obtain ⟨l1, l2⟩ := h2.lt
  have out : ∀ k, E' k ∨ B' k → w0.heap.size ≤ k ∧ ¬ (Eb k ∨ Bb k) := fun k hk => by
    have : (Ea k ∨ Ba k) ∨ W.heap.size ≤ k := by
      rcases hk with hk | hk
      · exact (q3 k hk).imp .inl id
      · exact (q4 k hk).imp .inr id
    rcases this with s | s
    · exact h3 k s
    · refine ⟨by omega, fun z => ?_⟩
      rcases z with z | z
      · have := l1 k z; omega
      · have := l2 k z; omega
  exact ⟨hR, E', B', Eb, Bb, q1, h2.mv q2 (fun k hk e => (h3 k (.inl e)).2 (.inl hk)) (fun k hk e => (h3 k (.inl e)).2 (.inr hk)), out, h4, h5.trans (q2.toBelow h5.size (fun k hk e => by have := (h3 k (.inl e)).1; omega))⟩
theorem Bo.b {w0 W : World} {qa qb : Nat} {La Lb Lb' : List Int} {ka kb kb' f : Nat} {args : Array Value} {R : Ending → Prop} (h : Bo w0 W qa qb La Lb ka kb) (hc : ∀ E B, Qi.Qu 14 (fun x => -x) W qb E B Lb kb → Calls Try.prog f args W fun e V => R e ∧ Qi.Qg 14 (fun x => -x) W qb E B Lb' kb' V) : Calls Try.prog f args W fun e V => R e ∧ Bo w0 V qa qb La Lb' ka kb' := by
  obtain ⟨Ea, Ba, Eb, Bb, h1, h2, h3, h4, h5⟩ := h
  refine (hc Eb Bb h2).mono ?_
  rintro e V ⟨hR, E', B', q1, q2, q3, q4⟩
  have sz := h5.size
  obtain ⟨l1, l2⟩ := h1.lt
  have inn : ∀ k, E' k ∨ B' k → (Eb k ∨ Bb k) ∨ W.heap.size ≤ k := fun k hk => by
    rcases hk with hk | hk
    · exact (q3 k hk).imp .inl id
    · exact (q4 k hk).imp .inr id
  refine ⟨hR, Ea, Ba, E', B', h1.mv q2 (fun k hk e => (h3 k (.inl hk)).2 (.inl e)) (fun k hk e => (h3 k (.inr hk)).2 (.inl e)), q1, fun k hk => ⟨(h3 k hk).1, fun z => ?_⟩, fun k hk => ?_, h5.trans (q2.toBelow h5.size (fun k hk e => by have := h4 k (.inl e); omega))⟩
  · rcases inn k z with s | s
    · exact (h3 k hk).2 s
    · rcases hk with hk | hk
      · have := l1 k hk; omega
      · have := l2 k hk; omega
  · rcases inn k hk with s | s
    · exact h4 k s
    · omega
end Go.Proofs.Ytcjlkhgnohdonaa
