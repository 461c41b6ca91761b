/- ProcPlays: the table and the reference's, both in memory. -/
import Derived.Test.YtcikjnifkoagpaaLW
import Derived.Test.YtcikjnifkoagpaaRQ12
import Derived.Test.YtcikjnifkoagpaaRQ2
import Derived.Test.YtcikjnifkoagpaaRQ4
import Derived.Test.YtcikjnifkoagpaaRQ5
import Derived.Test.YtcikjnifkoagpaaRQ6
import Derived.Test.YtcikjnifkoagpaaRQ7
import Derived.Test.YtcikjnifkoagpaaRQ9
import Derived.Test.YtcikjnifkoagpaaRQ10
import Derived.Test.YtcikjnifkoagpaaRPL
namespace Go.Proofs.Ytcikjnifkoagpaa
open Go.RowKit Go.Shelf
/-- Both in memory, apart from what is kept (Pf). -/
structure Md' (w : World) (Pf : Nat → Prop) (bt bm rb g cap : Nat) (room lc : Int) (l : Ps) (lr : Int) (r : Ps) (W : World) : Prop where
  t : Tn w bt bm room lc l W
  o : RO W rb g cap room lr r
  n1 : rb ≠ bt ∧ rb ≠ bm ∧ g ≠ bt ∧ g ≠ bm
  l1 : w.heap.size ≤ rb ∧ w.heap.size ≤ g
  pf : ∀ k, Pf k → k ≠ bt ∧ k ≠ bm ∧ k ≠ rb ∧ k ≠ g ∧ k < W.heap.size
def Md (w : World) (Pf : Nat → Prop) (bt bm rb : Nat) (room lc : Int) (l : Ps) (lr : Int) (r : Ps) (W : World) : Prop := ∃ g cap, Md' w Pf bt bm rb g cap room lc l lr r W
theorem Tb.lts {w : World} {bt bm : Nat} {room last : Int} {l : Ps} (h : Tb w bt bm room last l) : bt < w.heap.size ∧ bm < w.heap.size := by
  obtain ⟨n, _, ho⟩ := h.mp
  refine ⟨h.lt, ?_⟩
  exact ho.lt
theorem Md.code {w : World} {Pf : Nat → Prop} {bt bm rb : Nat} {room lc lc' : Int} {l l' : Ps} {lr : Int} {r : Ps} {W : World} (h : Md w Pf bt bm rb room lc l lr r W) {f : Nat} {args : Array Value} {R : Ending → Prop} (hc : Tn w bt bm room lc l W → Calls Try.prog f args W fun e V => R e ∧ Tn w bt bm room lc' l' V ∧ Mv (fun k => k = bt ∨ k = bm) W V) :
    Calls Try.prog f args W fun e V => R e ∧ Md w Pf bt bm rb room lc' l' lr r V ∧ Mv (fun k => ¬ Pf k) W V := by
  obtain ⟨g, cap, h⟩ := h
  refine (hc h.t).mono ?_
  rintro e V ⟨hR, t, m⟩
  have n1 := h.n1
  refine ⟨hR, ⟨g, cap, t, h.o.mv m (by omega) (by omega), h.n1, h.l1, fun k hk => ?_⟩, m.mono fun k _ e p => by have := h.pf k p; omega⟩
  have := h.pf k hk
  have := m.size
  omega
theorem Md.ref {w : World} {Pf : Nat → Prop} {bt bm rb : Nat} {room lc : Int} {l : Ps} {lr lr' : Int} {r r' : Ps} {W : World} (h : Md w Pf bt bm rb room lc l lr r W) {f : Nat} {args : Array Value} {R : Ending → Prop} (hc : ∀ g cap, RO W rb g cap room lr r → Calls Try.prog f args W fun e V => R e ∧ ∃ g' cap', Rg rb g W g' cap' room lr' r' V) :
    Calls Try.prog f args W fun e V => R e ∧ Md w Pf bt bm rb room lc l lr' r' V ∧ Mv (fun k => ¬ Pf k) W V := by
  obtain ⟨g, cap, h⟩ := h
  refine (hc g cap h.o).mono ?_
  rintro e V ⟨hR, g', cap', rg⟩
  have n1 := h.n1
  have l1 := h.l1
  have lts := h.t.tb.lts
  have bs := h.t.be.size
  have sz := rg.mv.size
  refine ⟨hR, ⟨g', cap', ⟨h.t.tb.mv rg.mv (by omega) (by omega), h.t.be.trans (rg.mv.toBelow bs (fun k hk e => by omega)), h.t.lt, h.t.lm⟩, rg.r, ?_, ?_, fun k hk => ?_⟩, rg.mv.mono fun k _ e p => by have := h.pf k p; omega⟩
  · rcases rg.gr with e | e <;> omega
  · rcases rg.gr with e | e <;> omega
  · have := h.pf k hk
    rcases rg.gr with e | e <;> omega
theorem Md.next {w : World} {Pf Pf' F : Nat → Prop} {bt bm rb : Nat} {room lc : Int} {l : Ps} {lr : Int} {r : Ps} {W V : World} (h : Md w Pf bt bm rb room lc l lr r W) (m : Mv F W V) (hF : ∀ k, F k → Pf k ∧ w.heap.size ≤ k ∨ W.heap.size ≤ k) (hP : ∀ k, Pf' k → Pf k ∨ (W.heap.size ≤ k ∧ k < V.heap.size)) : Md w Pf' bt bm rb room lc l lr r V := by
  obtain ⟨g, cap, h⟩ := h
  have lts := h.t.tb.lts
  have l1 := h.o.ltb
  have l2 := h.o.ltg
  have bs := h.t.be.size
  have sz := m.size
  have nF : ∀ k, F k → k ≠ bt ∧ k ≠ bm ∧ k ≠ rb ∧ k ≠ g := fun k f => by
    rcases hF k f with z | z
    · have := h.pf k z.1; omega
    · omega
  refine ⟨g, cap, ⟨h.t.tb.mv m (fun f => (nF _ f).1 rfl) (fun f => (nF _ f).2.1 rfl), h.t.be.trans (m.toBelow bs (fun k hk f => by rcases hF k f with z | z <;> omega)), h.t.lt, h.t.lm⟩, h.o.mv m (fun f => (nF _ f).2.2.1 rfl) (fun f => (nF _ f).2.2.2 rfl), h.n1, h.l1, fun k hk => ?_⟩
  rcases hP k hk with z | z
  · have := h.pf k z; omega
  · omega
theorem Md.below {w : World} {Pf : Nat → Prop} {bt bm rb : Nat} {room lc : Int} {l : Ps} {lr : Int} {r : Ps} {W V : World} (h : Md w Pf bt bm rb room lc l lr r W) (b : Below W.heap.size W V) : Md w Pf bt bm rb room lc l lr r V :=
  h.next (F := fun _ => False) (Mv.below b) (fun _ f => f.elim) (fun _ p => .inl p)
end Go.Proofs.Ytcikjnifkoagpaa
