/- The lexical walk of a region under names that nothing lays open by itself. -/
import Derived.Test.YtcpabmceioijpaaDoorZ0
namespace Go.Proofs.YtcpabmceioijpaaDoor
@[irreducible] def WQ (P : Program) (ops : Array Oper) (C : World → Prop) (Q : Act → Prop) (l : List Oper) (a : Act) : Prop := wpQuiet P ops C Q l a
@[irreducible] def SQ (P : Program) (ops : Array Oper) (C : World → Prop) (o : Oper) (a : Act) (K : Act → Prop) : Prop :=
  if Region.wanted o (yielded ops a.tmps) then o.quiet P a C K else K (a.put o.dst undef)
theorem SQ_eq (P : Program) (ops : Array Oper) (C : World → Prop) (o : Oper) (a : Act) (K : Act → Prop) :
    SQ P ops C o a K = if Region.wanted o (yielded ops a.tmps) then o.quiet P a C K else K (a.put o.dst undef) := by unfold SQ; rfl
theorem WQ_step {P : Program} {ops : Array Oper} {C : World → Prop} {Q : Act → Prop} {a : Act} {o : Oper} {rest : List Oper} (h : ∀ K : Act → Prop, (∀ a, WQ P ops C Q rest a → K a) → SQ P ops C o a K) : WQ P ops C Q (o :: rest) a := by
  unfold WQ
  refine wpQuiet_step fun K hK => ?_
  have := h K (fun a ha => hK a (by unfold WQ at ha; exact ha))
  rw [SQ_eq] at this
  exact this
theorem WQ_nil {P : Program} {ops : Array Oper} {C : World → Prop} {Q : Act → Prop} {a : Act} (h : Q a) : WQ P ops C Q [] a := by unfold WQ; exact wpQuiet_nil h
theorem region_WQ {P : Program} {C : World → Prop} {id : Nat} {Q : Exit → Act → World → Prop} {a : Act} {w : World} {l : List Oper} (hm : P.follows .mixedOrders = true) (hB : Region.lexB .any l.toArray = true) (hC : C { w with drawn := w.drawn + 1 })
    (h : WQ P l.toArray C (fun a' => ∀ w', C w' → Q .normal a' w') l a) : (Code.region id l.toArray true).wp P Q a w := by
  unfold WQ at h
  exact wp_region_quiet hm hB hC (by simpa using h)
end Go.Proofs.YtcpabmceioijpaaDoor
