import Derived.RangeFuncNested
import Derived.RangeFuncBound
import Derived.RangeFuncCalls
import Derived.RangeFuncLeaves
import Derived.RangeFuncFrom
import Derived.Shelf.Abstract
import Derived.Shelf.RegionOpen
import Derived.OwnWalkIn
import Derived.TacticsInMore
import Derived.LoopNIn
import Derived.LoopIn
import Derived.Test.YtiinhfbfciccnaaDoorChecked
import Derived.WalkKit
import Derived.WalkSpells
import Derived.BigQuiet
import Derived.Deep.QuietTactic
import Derived.KernelRfl
import Derived.OwnWalk
import Derived.Maps.AppendAt
import Derived.Maps.OwnIn
import Derived.RangeFuncBox
import Derived.DeepKeys4
import Derived.Test.YtiinhfbfciccnaaDoorShelfR
/- Iterators of functions, by territories: what a row's taker may turn, what is left as it lay; the law of a loop over such a row. -/
namespace Go.Proofs.YtiinhfbfciccnaaDoor
open Go.RowKit Go.Shelf
/-- From W to V nothing turns but blocks of E and new ones. -/
structure Mv (E : Nat → Prop) (W V : World) : Prop where
  os : V.os = W.os
  tape : V.tape = W.tape
  output : V.output = W.output
  size : W.heap.size ≤ V.heap.size
  block : ∀ k, k < W.heap.size → ¬ E k → V.heap[k]? = W.heap[k]?
/-- E' is E and what is new behind W. -/
def Gr (E : Nat → Prop) (W : World) (E' : Nat → Prop) : Prop := ∀ k, E' k → E k ∨ W.heap.size ≤ k
theorem Gr.refl (E : Nat → Prop) (W : World) : Gr E W E := fun _ h => .inl h
theorem Mv.refl (E : Nat → Prop) (W : World) : Mv E W W := ⟨rfl, rfl, rfl, Nat.le_refl _, fun _ _ _ => rfl⟩
theorem Mv.trans {E E' : Nat → Prop} {A B C : World} (h : Mv E A B) (g : Gr E A E') (k : Mv E' B C) : Mv E A C :=
  ⟨k.os.trans h.os, k.tape.trans h.tape, k.output.trans h.output, Nat.le_trans h.size k.size, fun b hb he =>
    (k.block b (Nat.lt_of_lt_of_le hb h.size) (fun e' => by rcases g b e' with e | e; exact he e; omega)).trans (h.block b hb he)⟩
theorem Mv.trans' {E : Nat → Prop} {A B C : World} (h : Mv E A B) (k : Mv E B C) : Mv E A C := h.trans (Gr.refl _ _) k
theorem Mv.mono {E E' : Nat → Prop} {A B : World} (h : Mv E A B) (g : ∀ k, k < A.heap.size → E k → E' k) : Mv E' A B := ⟨h.os, h.tape, h.output, h.size, fun b hb he => h.block b hb (fun e => he (g b hb e))⟩
theorem Mv.below {E : Nat → Prop} {A B : World} (h : Below A.heap.size A B) : Mv E A B := ⟨h.os, h.tape, h.output, h.size, fun b hb _ => h.block b hb⟩
theorem Mv.toBelow {E : Nat → Prop} {A B : World} {n : Nat} (h : Mv E A B) (hn : n ≤ A.heap.size) (he : ∀ k, k < n → ¬ E k) : Below n A B := ⟨h.os, h.tape, h.output, h.size, fun b hb => h.block b (Nat.lt_of_lt_of_le hb hn) (he b hb)⟩
theorem Mv.alloc (E : Nat → Prop) (W : World) (o : Obj) : Mv E W (W.alloc o) := .below ((Below.refl _ W).alloc (Nat.le_refl _) _)
theorem Mv.drew (E : Nat → Prop) (W : World) : Mv E W W.drew := .below (Below.refl _ W).drew
theorem Mv.put {E : Nat → Prop} {W : World} {l : Nat} (h : E l) (o : Obj) : Mv E W (W.putObj l o) := ⟨rfl, rfl, rfl, by simp, fun b _ he => World.putObj_heap_other (fun e => he (e ▸ h))⟩
theorem Gr.trans {E E' E'' : Nat → Prop} {A B : World} (h : Gr E A E') (hs : A.heap.size ≤ B.heap.size) (k : Gr E' B E'') : Gr E A E'' := fun b hb => by
  rcases k b hb with e | e
  · exact h b e
  · exact .inr (Nat.le_trans hs e)
theorem Gr.mono {E E' : Nat → Prop} {A B : World} (hs : A.heap.size ≤ B.heap.size) (k : Gr E B E') : Gr E A E' := fun b hb => by
  rcases k b hb with e | e
  · exact .inl e
  · exact .inr (Nat.le_trans hs e)
theorem Mv.put_new {E : Nat → Prop} {A W : World} {l : Nat} (h : Mv E A W) (hl : A.heap.size ≤ l) (o : Obj) : Mv E A (W.putObj l o) :=
  ⟨h.os, h.tape, h.output, by simpa using h.size, fun b hb he => (World.putObj_heap_other (by omega)).trans (h.block b hb he)⟩
/-- What is said hangs on the blocks of its territory and on those below B alone; its territory lies in the heap. -/
structure Ter {β : Type} (B : Nat) (J : β → (Nat → Prop) → World → Prop) : Prop where
  keep : ∀ s E W V, J s E W → Mv (fun k => ¬ E k ∧ B ≤ k) W V → J s E V
  low : ∀ s E W, J s E W → ∀ k, E k → k < W.heap.size
theorem Mv.out {E F : Nat → Prop} {W V : World} (m : Mv E W V) (h : ∀ k, k < W.heap.size → E k → F k) : Mv F W V := m.mono h
theorem Mv.put_at {E : Nat → Prop} {W : World} {l : Nat} (h : E l) (o : Obj) : Mv E W (W.putObj l o) := .put h o
/-- The taker of a row: it takes x, and goes on or not. -/
def Yi (P : Program) {α : Type} (l : Nat) (enc : α → Array Value) (J : List α → (Nat → Prop) → World → Prop) (Jx : Unit → (Nat → Prop) → World → Prop) : Prop :=
  ∀ x rest E W, J (x :: rest) E W → YieldAt Fence.wide 3 P l (enc x) W fun e V => Mv E W V ∧
    ((e = .returned (.bool true) ∧ ∃ E', Gr E W E' ∧ J rest E' V) ∨ (e = .returned (.bool false) ∧ ∃ E', Gr E W E' ∧ Jx () E' V))
/-- What comes of going through a row. -/
def Went {α : Type} (J : List α → (Nat → Prop) → World → Prop) (Jx : Unit → (Nat → Prop) → World → Prop) (E : Nat → Prop) (W : World) (e : Ending) (V : World) : Prop :=
  (∃ v, e = .returned v) ∧ Mv E W V ∧ ((∃ E', Gr E W E' ∧ J [] E' V) ∨ (∃ E', Gr E W E' ∧ Jx () E' V))
/-- Function g with what it has captured is the row xs, for all takers that turn nothing but E and what is new behind W. -/
def Row (P : Program) {α : Type} (g : Nat) (lb : Array Value) (enc : α → Array Value) (xs : List α) (E : Nat → Prop) (W : World) : Prop :=
  ∀ (l : Nat) (J : List α → (Nat → Prop) → World → Prop) (Jx : Unit → (Nat → Prop) → World → Prop) (E1 : Nat → Prop) (V : World),
    Mv E W V → Gr E W E1 → Ter V.heap.size J → Ter V.heap.size Jx → Yi P l enc J Jx → J xs E1 V →
    Calls P g (#[.func (.yield l) #[] #[]] ++ lb) V (Went J Jx E1 V)
theorem Row.later {P : Program} {α : Type} {g : Nat} {lb : Array Value} {enc : α → Array Value} {xs : List α} {E E1 : Nat → Prop} {W V : World}
    (h : Row P g lb enc xs E W) (m : Mv E W V) (gr : Gr E W E1) : Row P g lb enc xs E1 V :=
  fun l J Jx E2 V2 m2 g2 => h l J Jx E2 V2 (m.trans gr m2) (gr.trans m.size g2)
theorem wide_round {l n m : Nat} {P : Program} {l' f : Nat} {tmps : Array Value} {assign body : Code} {w : World} {R : Ending → World → Prop}
    (h : RoundIn (Fence.wide) n P l' f tmps assign body w R) : RoundIn (Fence.wide.inRound l) m P l' f tmps assign body w R :=
  ⟨trivial, fun c cs _ => h.2 c cs (fun d hd => by cases hd)⟩
theorem wide_round' {n m : Nat} {P : Program} {l' f : Nat} {tmps : Array Value} {assign body : Code} {w : World} {R : Ending → World → Prop}
    (h : RoundIn (Fence.wide) n P l' f tmps assign body w R) : RoundIn (Fence.wide) m P l' f tmps assign body w R :=
  ⟨trivial, fun c cs _ => h.2 c cs (fun d hd => by cases hd)⟩
/-- W1 and W2 part at most in the loop's record. -/
structure Twin (l : Nat) (A B : World) : Prop where
  os : B.os = A.os
  tape : B.tape = A.tape
  output : B.output = A.output
  size : B.heap.size = A.heap.size
  block : ∀ k, k ≠ l → B.heap[k]? = A.heap[k]?
  here : ∃ r, B.heap[l]? = some (.loop r)
/-- How a round's body may be left. -/
def roundX {α : Type} (I : List α → (Nat → Prop) → World → Prop) (Ix : Code → (Nat → Prop) → World → Prop) (rest : List α) (E : Nat → Prop) (W : World) : Exit → Act → World → Prop
  | .normal, _, V => Mv E W V ∧ ∃ E', Gr E W E' ∧ I rest E' V
  | .ret, _, V => Mv E W V ∧ ∃ E', Gr E W E' ∧ Ix .ret E' V
  | .exit id, _, V => Mv E W V ∧ ∃ E', Gr E W E' ∧ Ix (.exit id) E' V
  | .goto t, _, V => Mv E W V ∧ ∃ E', Gr E W E' ∧ Ix (.goto t) E' V
  | .panic _, _, _ => False
  | .outgrown, _, _ => False
/-- What one round asks of its code. -/
def RoundOk (P : Program) {α : Type} (ps : Array Tmp) (assign body : Code) (enc : α → Array Value) (I : List α → (Nat → Prop) → World → Prop) (Ix : Code → (Nat → Prop) → World → Prop) (tmps : Array Value) (E0 : Nat → Prop) (w : World) (l : Nat) : Prop :=
  ∀ x rest E W, I (x :: rest) E W → Mv E0 w W → Gr E0 w E → ¬ E l → (∃ r, W.heap[l]? = some (.loop r)) →
    assign.wpIn (Fence.wide.inRound l) 3 P (Exit.then (fun a₁ W1 => (Mv E W W1 ∧ W1.heap[l]? = W.heap[l]?) ∧ ∀ W2, Twin l W1 W2 → body.wpIn (Fence.wide.inRound l) 3 P (roundX I Ix rest E W2) a₁ W2) (fun _ _ _ => False))
      { tmps := (ps.zip (enc x)).foldl (fun t (p, v) => t.setIfInBounds p v) tmps, defers := [] } W
theorem yi_of_round {P : Program} {α : Type} {ps : Array Tmp} {assign body : Code} {enc : α → Array Value} {I : List α → (Nat → Prop) → World → Prop} {Ix : Code → (Nat → Prop) → World → Prop} {tmps : Array Value} {l fn D : Nat}
    {B : Nat} {E00 : Nat → Prop} {w : World} (hl0 : w.heap.size ≤ l) (hBl : B ≤ l) (hI : Ter B I) (hIx : Ter B Ix) (hps : ∀ x, (enc x).size = ps.size) (hr : RoundOk P ps assign body enc I Ix tmps E00 w l) :
    Yi P l enc
      (fun rest E1 W => ∃ E, (∀ k, E1 k ↔ (E k ∨ k = l)) ∧ ¬ E l ∧ (I rest E W ∧ Mv E00 w W ∧ Gr E00 w E) ∧ W.heap[l]? = some (.loop { state := .ready, pending := none, fn := fn, tmps := tmps, params := ps, assign := assign, body := body, defers := D }))
      (fun _ E1 W => ∃ E c, (∀ k, E1 k ↔ (E k ∨ k = l)) ∧ ¬ E l ∧ (Ix c E W ∧ Mv E00 w W ∧ Gr E00 w E) ∧ W.heap[l]? = some (.loop { state := .done, pending := some c, fn := fn, tmps := tmps, params := ps, assign := assign, body := body, defers := D })) := by
  rintro x rest E1 W ⟨E, hE, hEl, ⟨hi, hmw, hgw⟩, hl⟩
  obtain ⟨rec, hrec⟩ : ∃ rec : LoopState → Option Code → Loop, rec = fun st pe => { state := st, pending := pe, fn := fn, tmps := tmps, params := ps, assign := assign, body := body, defers := D } := ⟨_, rfl⟩
  have hlr : W.heap[l]? = some (.loop (rec .ready none)) := by rw [hrec]; exact hl
  have hy := run_yield (P := P) (args := enc x) hl (hps x)
  refine ⟨fn, _, assign, body, hy, roundIn_of_wpIn trivial ?_⟩
  refine wpIn_mono (hr x rest E W hi hmw hgw hEl ⟨_, hl⟩) ?_
  intro e a1 W1 he
  cases e with
  | normal =>
    obtain ⟨⟨m1, hk1⟩, hb⟩ := he
    have hl1 := hk1.trans hlr
    have hlt : l < W1.heap.size := (Array.getElem?_eq_some_iff.1 hl1).1
    have hltW : l < W.heap.size := (Array.getElem?_eq_some_iff.1 hl).1
    refine ⟨_, run_beginRound hl1 (by rw [hrec]), ?_⟩
    have hl2 : (W1.putObj l (.loop { rec .ready none with state := .busy })).heap[l]? = some (.loop { rec .ready none with state := .busy }) := World.putObj_heap_same hlt
    have tw : Twin l W1 (W1.putObj l (.loop { rec .ready none with state := .busy })) := ⟨rfl, rfl, rfl, by simp, fun k hk => World.putObj_heap_other hk, ⟨_, hl2⟩⟩
    have m1' : Mv E1 W W1 := m1.mono (fun k _ h => (hE k).2 (.inl h))
    have m2 : Mv E1 W (W1.putObj l (.loop { rec .ready none with state := .busy })) := m1'.trans' (.put ((hE l).2 (.inr rfl)) _)
    refine wpIn_mono (hb _ tw) ?_
    revert hl2 m2
    generalize hW2 : W1.putObj l (.loop { rec .ready none with state := .busy }) = W2
    intro hl2 m2
    have hmw2 : Mv E00 w W2 := by rw [← hW2]; exact (hmw.trans hgw m1).put_new hl0 _
    have fin : ∀ (jump : Option Code) (W3 : World), Mv E W2 W3 → (Instr.endRound l jump).run P W3 = .ok (.bool jump.isNone) (W3.putObj l (.loop (rec (if jump.isNone then .ready else .done) jump))) ∧
        (W3.putObj l (.loop (rec (if jump.isNone then .ready else .done) jump))).heap[l]? = some (.loop (rec (if jump.isNone then .ready else .done) jump)) ∧ Mv E1 W (W3.putObj l (.loop (rec (if jump.isNone then .ready else .done) jump))) ∧ Mv E00 w (W3.putObj l (.loop (rec (if jump.isNone then .ready else .done) jump))) := by
      intro jump W3 m3
      have hl3 := (m3.block l (Array.getElem?_eq_some_iff.1 hl2).1 hEl).trans hl2
      have := run_endRound (P := P) jump hl3
      rw [hrec] at this ⊢
      exact ⟨this, World.putObj_heap_same (Array.getElem?_eq_some_iff.1 hl3).1, (m2.trans' (m3.mono (fun k _ h => (hE k).2 (.inl h)))).trans' (.put ((hE l).2 (.inr rfl)) _), ((hmw2.trans hgw m3).put_new hl0 _)⟩
    have grow : ∀ (E' : Nat → Prop) (V : World), Gr E W2 E' → Gr E1 W (fun k => (E' k ∧ k ≠ l) ∨ k = l) := by
      intro E' V g k hk
      rcases hk with ⟨hk, hne⟩ | rfl
      · rcases g k hk with h | h
        · exact .inl ((hE k).2 (.inl h))
        · exact .inr (Nat.le_trans m2.size h)
      · exact .inl ((hE k).2 (.inr rfl))
    have nel : ∀ (E' : Nat → Prop), Gr E W2 E' → ∀ k, E' k → k ≠ l := by
      intro E' g k hk e
      subst e
      rcases g k hk with h | h
      · exact hEl h
      · have := (Array.getElem?_eq_some_iff.1 hl2).1; omega
    have ggw : ∀ (E' : Nat → Prop), Gr E W2 E' → Gr E00 w E' := fun E' g => hgw.trans (Nat.le_trans hmw.size (by rw [← hW2]; simpa using m1.size)) g
    intro e3 a3 W3 hp
    cases e3 with
    | normal =>
      obtain ⟨m3, E', g3, hi3⟩ := hp
      obtain ⟨r3, hl4, m4, m5⟩ := fin none W3 m3
      refine ⟨_, _, r3, m4, .inl ⟨rfl, _, grow E' W3 g3, E', fun k => ?_, fun h => nel E' g3 l h rfl, ⟨hI.keep _ _ _ _ hi3 (.put ⟨fun h => nel E' g3 l h rfl, hBl⟩ _), m5, ggw E' g3⟩, by rw [hl4, hrec]; rfl⟩⟩
      exact ⟨fun h => h.imp And.left id, fun h => h.imp (fun h => ⟨h, nel E' g3 k h⟩) id⟩
    | ret =>
      obtain ⟨m3, E', g3, hi3⟩ := hp
      obtain ⟨r3, hl4, m4, m5⟩ := fin (some .ret) W3 m3
      refine ⟨_, _, r3, m4, .inr ⟨rfl, _, grow E' W3 g3, E', _, fun k => ?_, fun h => nel E' g3 l h rfl, ⟨hIx.keep _ _ _ _ hi3 (.put ⟨fun h => nel E' g3 l h rfl, hBl⟩ _), m5, ggw E' g3⟩, by rw [hl4, hrec]; rfl⟩⟩
      exact ⟨fun h => h.imp And.left id, fun h => h.imp (fun h => ⟨h, nel E' g3 k h⟩) id⟩
    | exit id' =>
      obtain ⟨m3, E', g3, hi3⟩ := hp
      obtain ⟨r3, hl4, m4, m5⟩ := fin (some (.exit id')) W3 m3
      refine ⟨_, _, r3, m4, .inr ⟨rfl, _, grow E' W3 g3, E', _, fun k => ?_, fun h => nel E' g3 l h rfl, ⟨hIx.keep _ _ _ _ hi3 (.put ⟨fun h => nel E' g3 l h rfl, hBl⟩ _), m5, ggw E' g3⟩, by rw [hl4, hrec]; rfl⟩⟩
      exact ⟨fun h => h.imp And.left id, fun h => h.imp (fun h => ⟨h, nel E' g3 k h⟩) id⟩
    | goto t =>
      obtain ⟨m3, E', g3, hi3⟩ := hp
      obtain ⟨r3, hl4, m4, m5⟩ := fin (some (.goto t)) W3 m3
      refine ⟨_, _, r3, m4, .inr ⟨rfl, _, grow E' W3 g3, E', _, fun k => ?_, fun h => nel E' g3 l h rfl, ⟨hIx.keep _ _ _ _ hi3 (.put ⟨fun h => nel E' g3 l h rfl, hBl⟩ _), m5, ggw E' g3⟩, by rw [hl4, hrec]; rfl⟩⟩
      exact ⟨fun h => h.imp And.left id, fun h => h.imp (fun h => ⟨h, nel E' g3 k h⟩) id⟩
    | panic ch => exact hp.elim
    | outgrown => exact hp.elim
  | ret => exact he.elim
  | exit _ => exact he.elim
  | goto _ => exact he.elim
  | panic _ => exact he.elim
  | outgrown => exact he.elim
/-- A loop over a row, outside of all rounds. -/
theorem loop_out {P : Program} {α : Type} {n : Nat} {g : Operand} {ps : Array Tmp} {assign body : Code} {Q : Exit → Act → World → Prop} {a : Act} {w : World} {gf : Nat} {lb : Array Value}
    (hg : a.eval g = .func (.func gf) #[] lb) (eg : ∀ args w, (callFunc gf args).run P w = .ok (.enter gf args) w) {enc : α → Array Value} {xs : List α} {E : Nat → Prop}
    (hrow : Row P gf lb enc xs E w) (hps : ∀ x, (enc x).size = ps.size) (I : List α → (Nat → Prop) → World → Prop) (Ix : Code → (Nat → Prop) → World → Prop) (hI : Ter w.heap.size I) (hIx : Ter w.heap.size Ix) (h0 : I xs E w)
    (hround : ∀ l, w.heap.size ≤ l → RoundOk P ps assign body enc I Ix a.tmps E w l)
    (hdone : ∀ D E' W, w.heap.size ≤ D → W.heap[D]? = some (.deferred (some [])) → ¬ E' D → Mv E w W → Gr E w E' → I [] E' W → Q .normal { a with defers := { target := .collected D, args := #[] } :: a.defers } W)
    (hstop : ∀ D c E' W, w.heap.size ≤ D → W.heap[D]? = some (.deferred (some [])) → ¬ E' D → Mv E w W → Gr E w E' → Ix c E' W → c.wpIn Fence.wide n P Q { a with defers := { target := .collected D, args := #[] } :: a.defers } W) :
    (Code.rangeFunc g ps assign body).wpIn Fence.wide n P Q a w := by
  refine wpIn_rangeFunc ?_
  intro fn _
  have hlow := hI.low _ _ _ h0
  obtain ⟨W1, hW1⟩ : ∃ W1, (w.alloc (.deferred (some []))).alloc (.loop { state := .ready, pending := none, fn := fn, tmps := a.tmps, params := ps, assign := assign, body := body, defers := w.heap.size }) = W1 := ⟨_, rfl⟩
  have hL1 : W1.heap[w.heap.size + 1]? = some (.loop { state := .ready, pending := none, fn := fn, tmps := a.tmps, params := ps, assign := assign, body := body, defers := w.heap.size }) := by
    rw [← hW1]; have := World.alloc_heap_new (w.alloc (.deferred (some []))) (.loop { state := .ready, pending := none, fn := fn, tmps := a.tmps, params := ps, assign := assign, body := body, defers := w.heap.size }); rwa [World.size_alloc] at this
  have hK1 : W1.heap[w.heap.size]? = some (.deferred (some [])) := by
    rw [← hW1]; exact (Below.heap_alloc _ _ _ (by simp)).trans (World.alloc_heap_new w _)
  have hs1 : W1.heap.size = w.heap.size + 2 := by rw [← hW1]; simp
  have m1 : Mv E w W1 := by rw [← hW1]; exact (Mv.alloc _ _ _).trans' (Mv.alloc _ _ _)
  have g1 : Gr E w (fun k => E k ∨ k = w.heap.size + 1) := fun k hk => hk.imp id (fun e => by omega)
  refine ⟨w.heap.size + 1, [{ target := .collected w.heap.size, args := #[] }], W1, { target := .fn (.func gf) lb, args := #[.func (.yield (w.heap.size + 1)) #[] #[]] }, W1, gf, #[.func (.yield (w.heap.size + 1)) #[] #[]] ++ lb, W1, ?_, ?_, fun _ _ => trivial, ?_, fun h => (by cases h), callsIn_wide.2 ?_⟩
  · rw [← hW1]; exact run_enterLoop_outer _ _ _ _ _
  · simp only [resolve, hg]
    simp [go_sem]
  · simp [invoke, go_sem, eg]
  · refine (hrow (w.heap.size + 1) _ _ (fun k => E k ∨ k = w.heap.size + 1) W1 m1 g1 ?_ ?_ (yi_of_round (fn := fn) (D := w.heap.size) (by omega) (by omega) hI hIx hps (hround _ (by omega))) ?_).mono ?_
    · refine ⟨fun s E1 W V h m => ?_, fun s E1 W h k hk => ?_⟩
      · obtain ⟨E0, hE, hEl, ⟨hi, hmw, hgw⟩, hl⟩ := h
        refine ⟨E0, hE, hEl, ⟨hI.keep _ _ _ _ hi (m.out (fun k _ h => ⟨fun e => h.1 ((hE k).2 (.inl e)), by omega⟩)), ?_, hgw⟩, ?_⟩
        · exact ⟨m.os.trans hmw.os, m.tape.trans hmw.tape, m.output.trans hmw.output, Nat.le_trans hmw.size m.size, fun k hk he => (m.block k (Nat.lt_of_lt_of_le hk hmw.size) (fun h => by omega)).trans (hmw.block k hk he)⟩
        · exact (m.block _ (Array.getElem?_eq_some_iff.1 hl).1 (fun h => h.1 ((hE _).2 (.inr rfl)))).trans hl
      · obtain ⟨E0, hE, hEl, ⟨hi, hmw, hgw⟩, hl⟩ := h
        rcases (hE k).1 hk with h | rfl
        · exact hI.low _ _ _ hi k h
        · exact (Array.getElem?_eq_some_iff.1 hl).1
    · refine ⟨fun s E1 W V h m => ?_, fun s E1 W h k hk => ?_⟩
      · obtain ⟨E0, c, hE, hEl, ⟨hi, hmw, hgw⟩, hl⟩ := h
        refine ⟨E0, c, hE, hEl, ⟨hIx.keep _ _ _ _ hi (m.out (fun k _ h => ⟨fun e => h.1 ((hE k).2 (.inl e)), by omega⟩)), ?_, hgw⟩, ?_⟩
        · exact ⟨m.os.trans hmw.os, m.tape.trans hmw.tape, m.output.trans hmw.output, Nat.le_trans hmw.size m.size, fun k hk he => (m.block k (Nat.lt_of_lt_of_le hk hmw.size) (fun h => by omega)).trans (hmw.block k hk he)⟩
        · exact (m.block _ (Array.getElem?_eq_some_iff.1 hl).1 (fun h => h.1 ((hE _).2 (.inr rfl)))).trans hl
      · obtain ⟨E0, c, hE, hEl, ⟨hi, hmw, hgw⟩, hl⟩ := h
        rcases (hE k).1 hk with h | rfl
        · exact hIx.low _ _ _ hi k h
        · exact (Array.getElem?_eq_some_iff.1 hl).1
    · exact ⟨E, fun k => Iff.rfl, fun h => by have := hlow _ h; omega, ⟨hI.keep _ _ _ _ h0 (by rw [← hW1]; exact (Mv.alloc _ _ _).trans' (Mv.alloc _ _ _)), m1, Gr.refl _ _⟩, hL1⟩
    · rintro e W2 ⟨⟨v, rfl⟩, m2, (⟨E1, g2, E0, hE, hEl, ⟨hi, mW, gW⟩, hl⟩ | ⟨E1, g2, E0, c, hE, hEl, ⟨hi, mW, gW⟩, hl⟩)⟩
      all_goals
        have hKD : W2.heap[w.heap.size]? = some (.deferred (some [])) := (m2.block _ (by omega) (fun h => by rcases h with h | h; exact absurd (hlow _ h) (by omega); omega)).trans hK1
        have nD : ¬ E0 w.heap.size := fun h => by
          rcases g2 _ ((hE _).2 (.inl h)) with (h | h) | h
          · exact absurd (hlow _ h) (by omega)
          · omega
          · omega
      · refine ⟨none, _, run_endLoop hl (by simp), ?_⟩
        exact hdone w.heap.size E0 _ (Nat.le_refl _) ((World.putObj_heap_other (by omega)).trans hKD) nD (mW.put_new (by omega) _) gW (hI.keep _ _ _ _ hi (.put ⟨hEl, by omega⟩ _))
      · refine ⟨some c, _, run_endLoop hl (by simp), ?_⟩
        exact hstop w.heap.size c E0 _ (Nat.le_refl _) ((World.putObj_heap_other (by omega)).trans hKD) nD (mW.put_new (by omega) _) gW (hIx.keep _ _ _ _ hi (.put ⟨hEl, by omega⟩ _))
/-- A loop over a row, in a round of another one. -/
theorem loop_in {P : Program} {α : Type} {n l₀ : Nat} {g : Operand} {ps : Array Tmp} {assign body : Code} {Q : Exit → Act → World → Prop} {a : Act} {w : World} {gf : Nat} {lb : Array Value}
    (hl₀ : ∃ r₀, w.heap[l₀]? = some (.loop r₀)) (hg : a.eval g = .func (.func gf) #[] lb) (eg : ∀ args w, (callFunc gf args).run P w = .ok (.enter gf args) w) {enc : α → Array Value} {xs : List α} {E : Nat → Prop}
    (hrow : Row P gf lb enc xs E w) (hps : ∀ x, (enc x).size = ps.size) (I : List α → (Nat → Prop) → World → Prop) (Ix : Code → (Nat → Prop) → World → Prop) (hI : Ter w.heap.size I) (hIx : Ter w.heap.size Ix) (h0 : I xs E w)
    (hround : ∀ l, w.heap.size ≤ l → RoundOk P ps assign body enc I Ix a.tmps E w l)
    (hdone : ∀ E' W, Mv E w W → Gr E w E' → I [] E' W → Q .normal a W)
    (hstop : ∀ c E' W, Mv E w W → Gr E w E' → Ix c E' W → c.wpIn (Fence.wide.inRound l₀) n P Q a W) :
    (Code.rangeFunc g ps assign body).wpIn (Fence.wide.inRound l₀) n P Q a w := by
  refine wpIn_rangeFunc ?_
  intro fn _
  obtain ⟨r₀, hl₀⟩ := hl₀
  have hlow := hI.low _ _ _ h0
  obtain ⟨W1, hW1⟩ : ∃ W1, w.alloc (.loop { state := .ready, pending := none, fn := fn, tmps := a.tmps, params := ps, assign := assign, body := body, defers := r₀.defers }) = W1 := ⟨_, rfl⟩
  have hL1 : W1.heap[w.heap.size]? = some (.loop { state := .ready, pending := none, fn := fn, tmps := a.tmps, params := ps, assign := assign, body := body, defers := r₀.defers }) := by
    rw [← hW1]; exact World.alloc_heap_new w _
  have hs1 : W1.heap.size = w.heap.size + 1 := by rw [← hW1]; simp
  have m1 : Mv E w W1 := by rw [← hW1]; exact Mv.alloc _ _ _
  have g1 : Gr E w (fun k => E k ∨ k = w.heap.size) := fun k hk => hk.imp id (fun e => by omega)
  refine ⟨w.heap.size, [], W1, { target := .fn (.func gf) lb, args := #[.func (.yield w.heap.size) #[] #[]] }, W1, gf, #[.func (.yield w.heap.size) #[] #[]] ++ lb, W1, ?_, ?_, fun _ _ => trivial, ?_, fun h => (by cases h), CallsIn.inRound l₀ (callsIn_wide.2 ?_)⟩
  · rw [← hW1]; exact run_enterLoop_inner hl₀ _ _ _ _ _
  · simp only [resolve, hg]
    simp [go_sem]
  · simp [invoke, go_sem, eg]
  · refine (hrow w.heap.size _ _ (fun k => E k ∨ k = w.heap.size) W1 m1 g1 ?_ ?_ (yi_of_round (fn := fn) (D := r₀.defers) (by omega) (by omega) hI hIx hps (hround _ (by omega))) ?_).mono ?_
    · refine ⟨fun s E1 W V h m => ?_, fun s E1 W h k hk => ?_⟩
      · obtain ⟨E0, hE, hEl, ⟨hi, hmw, hgw⟩, hl⟩ := h
        refine ⟨E0, hE, hEl, ⟨hI.keep _ _ _ _ hi (m.out (fun k _ h => ⟨fun e => h.1 ((hE k).2 (.inl e)), by omega⟩)), ?_, hgw⟩, ?_⟩
        · exact ⟨m.os.trans hmw.os, m.tape.trans hmw.tape, m.output.trans hmw.output, Nat.le_trans hmw.size m.size, fun k hk he => (m.block k (Nat.lt_of_lt_of_le hk hmw.size) (fun h => by omega)).trans (hmw.block k hk he)⟩
        · exact (m.block _ (Array.getElem?_eq_some_iff.1 hl).1 (fun h => h.1 ((hE _).2 (.inr rfl)))).trans hl
      · obtain ⟨E0, hE, hEl, ⟨hi, hmw, hgw⟩, hl⟩ := h
        rcases (hE k).1 hk with h | rfl
        · exact hI.low _ _ _ hi k h
        · exact (Array.getElem?_eq_some_iff.1 hl).1
    · refine ⟨fun s E1 W V h m => ?_, fun s E1 W h k hk => ?_⟩
      · obtain ⟨E0, c, hE, hEl, ⟨hi, hmw, hgw⟩, hl⟩ := h
        refine ⟨E0, c, hE, hEl, ⟨hIx.keep _ _ _ _ hi (m.out (fun k _ h => ⟨fun e => h.1 ((hE k).2 (.inl e)), by omega⟩)), ?_, hgw⟩, ?_⟩
        · exact ⟨m.os.trans hmw.os, m.tape.trans hmw.tape, m.output.trans hmw.output, Nat.le_trans hmw.size m.size, fun k hk he => (m.block k (Nat.lt_of_lt_of_le hk hmw.size) (fun h => by omega)).trans (hmw.block k hk he)⟩
        · exact (m.block _ (Array.getElem?_eq_some_iff.1 hl).1 (fun h => h.1 ((hE _).2 (.inr rfl)))).trans hl
      · obtain ⟨E0, c, hE, hEl, ⟨hi, hmw, hgw⟩, hl⟩ := h
        rcases (hE k).1 hk with h | rfl
        · exact hIx.low _ _ _ hi k h
        · exact (Array.getElem?_eq_some_iff.1 hl).1
    · exact ⟨E, fun k => Iff.rfl, fun h => by have := hlow _ h; omega, ⟨hI.keep _ _ _ _ h0 (by rw [← hW1]; exact Mv.alloc _ _ _), m1, Gr.refl _ _⟩, hL1⟩
    · rintro e W2 ⟨⟨v, rfl⟩, m2, (⟨E1, g2, E0, hE, hEl, ⟨hi, mW, gW⟩, hl⟩ | ⟨E1, g2, E0, c, hE, hEl, ⟨hi, mW, gW⟩, hl⟩)⟩
      · exact ⟨none, _, run_endLoop hl (by simp), hdone E0 _ (mW.put_new (by omega) _) gW (hI.keep _ _ _ _ hi (.put ⟨hEl, by omega⟩ _))⟩
      · exact ⟨some c, _, run_endLoop hl (by simp), hstop c E0 _ (mW.put_new (by omega) _) gW (hIx.keep _ _ _ _ hi (.put ⟨hEl, by omega⟩ _))⟩
theorem Ter.up {β : Type} {B B' : Nat} {J : β → (Nat → Prop) → World → Prop} (h : Ter B J) (hB : B ≤ B') : Ter B' J :=
  ⟨fun s E W V hj m => h.keep s E W V hj (m.mono (fun _ _ hk => ⟨hk.1, Nat.le_trans hB hk.2⟩)), h.low⟩
theorem Ter.comp {β γ : Type} {B : Nat} {J : β → (Nat → Prop) → World → Prop} (h : Ter B J) (f : γ → β) : Ter B (fun s => J (f s)) :=
  ⟨fun s E W V hj m => h.keep (f s) E W V hj m, fun s E W hj => h.low (f s) E W hj⟩
theorem Ter.and {β : Type} {B : Nat} {J : β → (Nat → Prop) → World → Prop} (h : Ter B J) (p : β → Prop) : Ter B (fun s E W => p s ∧ J s E W) :=
  ⟨fun s E W V hj m => ⟨hj.1, h.keep s E W V hj.2 m⟩, fun s E W hj => h.low s E W hj.2⟩
theorem Mv.twin {E : Nat → Prop} {A B C : World} {l : Nat} (h : Mv E A B) (t : Twin l B C) (hl : A.heap.size ≤ l) : Mv E A C :=
  ⟨t.os.trans h.os, t.tape.trans h.tape, t.output.trans h.output, by have := h.size; rw [t.size]; exact this, fun k hk he => (t.block k (by omega)).trans (h.block k hk he)⟩
theorem Twin.mv {l : Nat} {A B : World} (t : Twin l A B) : Mv (fun k => k = l) A B := ⟨t.os, t.tape, t.output, by rw [t.size]; exact Nat.le_refl _, fun k _ hk => t.block k hk⟩
/-- What holds behind the assignment, when the round has begun. -/
theorem Twin.go {α : Type} {B l : Nat} {I : List α → (Nat → Prop) → World → Prop} {E E0 : Nat → Prop} {w W W1 W2 : World} {s : List α} (t : Twin l W1 W2) (hI : Ter B I) (hi : I s E W) (m : Mv (fun k => ¬ E k ∧ B ≤ k) W W1) (hm : Mv E0 w W) (hw : w.heap.size ≤ B) (hl : B ≤ l) (hE : ¬ E l) :
    I s E W2 ∧ Mv E0 w W2 := by
  refine ⟨hI.keep _ _ _ _ (hI.keep _ _ _ _ hi m) (t.mv.mono (fun k _ e => by subst e; exact ⟨hE, hl⟩)), ?_⟩
  have h1 : Mv E0 w W1 := ⟨m.os.trans hm.os, m.tape.trans hm.tape, m.output.trans hm.output, Nat.le_trans hm.size m.size, fun k hk he => (m.block k (Nat.lt_of_lt_of_le hk hm.size) (fun h => by omega)).trans (hm.block k hk he)⟩
  exact h1.twin t (Nat.le_trans hw hl)
theorem Gr.free {E : Nat → Prop} {A : World} {k : Nat} {E' : Nat → Prop} (g : Gr E A E') (h : k < A.heap.size) (hk : ¬ E k) : ¬ E' k := fun h' => by
  rcases g k h' with h1 | h1
  · exact hk h1
  · omega
end Go.Proofs.YtiinhfbfciccnaaDoor
/- Small laws of texts, cells, blocks and rows. -/
namespace Go.Proofs.YtiinhfbfciccnaaDoor
open Go.RowKit Go.Shelf
theorem ret_bool {a b : Bool} (h : a = b) : Ending.returned (.bool a) = .returned (.bool b) := by rw [h]
theorem ret_int {k : IntKind} {a b : Int} (h : a = b) : Ending.returned (.int k a) = .returned (.int k b) := by rw [h]
theorem ret_str {a b : ByteArray} (h : a = b) : Ending.returned (.string a) = .returned (.string b) := by rw [h]
theorem size_list (s : ByteArray) : s.data.toList.length = s.size := by rw [Array.length_toList]; rfl
theorem get_list (s : ByteArray) (k : Nat) (h : k < s.size) : s.data.toList[k]? = some s[k] := by
  rw [Array.getElem?_toList]; exact Array.getElem?_eq_getElem h
theorem letters (x : List UInt8) : ∃ A : ByteArray, A.data.toList = x ∧ A.size = x.length ∧ (⟨x.toArray⟩ : ByteArray) = A := ⟨⟨x.toArray⟩, rfl, rfl, rfl⟩
theorem below_drewN {w w' : World} {m : Nat} (h : Below m w w') (n : Nat) : Below m w (w'.drewN n) := ⟨h.os, h.tape, h.output, h.size, h.block⟩
theorem cell_at {W : World} {cs : Array Value} {t : TypeId} {n j : Nat} {v : Value} (hn : W.heap.size = n) (h : cs[j]? = some v) : (W.alloc (.cells cs t)).cell? ⟨n, j, none⟩ = some v := by
  subst hn
  have := heap_alloc_new W (.cells cs t)
  unfold World.cell?
  rw [this]
  exact h
theorem cell_lt {W : World} {a : Addr} {v : Value} (h : W.cell? a = some v) : a.block < W.heap.size := by
  rcases Nat.lt_or_ge a.block W.heap.size with hl | hl
  · exact hl
  · have : W.cell? a = none := by
      unfold World.cell?
      rw [Array.getElem?_eq_none hl]
    rw [this] at h; cases h
theorem own_below {w w' : World} {base : Nat} {e : TypeId} {size : Nat} {v : Value} {n : Nat} {xs : List Value} (h : w.ownsRow base e size v n xs) (hb : Below w.heap.size w w') : w'.ownsRow base e size v n xs := by
  refine ⟨h.1, ?_⟩
  rcases h.2 with h2 | ⟨g, cap, cur, h1, h2, h3, h4⟩
  · exact .inl h2
  · exact .inr ⟨g, cap, cur, h1, h2, (hb.block g (Array.getElem?_eq_some_iff.1 h3).1).trans h3, h4⟩
theorem row_news1 (w : World) (c : Value) (t : TypeId) : ∀ j u, [c][j]? = some u → (w.alloc (.cells #[c] t)).cell? ((⟨w.heap.size, 0, none⟩ : Addr).add j) = some u := by
  intro j u hj
  match j, hj with
  | 0, hj => simp at hj; subst hj; simp [Addr.add]
theorem own_mv {w w' : World} {base : Nat} {e : TypeId} {size : Nat} {v : Value} {n : Nat} {xs : List Value} {E : Nat → Prop} (h : w.ownsRow base e size v n xs) (m : Mv E w w') (hE : ∀ g, v.ownBlock = some g → ¬ E g) : w'.ownsRow base e size v n xs := by
  refine ⟨h.1, ?_⟩
  rcases h.2 with h2 | ⟨g, cap, cur, h1, h2, h3, h4⟩
  · exact .inl h2
  · exact .inr ⟨g, cap, cur, h1, h2, (m.block g (Array.getElem?_eq_some_iff.1 h3).1 (hE g (by rw [h1]; rfl))).trans h3, h4⟩
theorem Mv.grown {E : Nat → Prop} {A W W' : World} {r : Option Nat} (h : Mv E A W) (hg : W.grownBy W' r) (hr : ∀ k, r = some k → E k ∨ A.heap.size ≤ k) : Mv E A W' :=
  ⟨hg.os.trans h.os, hg.tape.trans h.tape, hg.output.trans h.output, Nat.le_trans h.size hg.size, fun k hk he => (hg.block k (Nat.lt_of_lt_of_le hk h.size) (fun e => by rcases hr k e.symm with q | q; exact he q; omega)).trans (h.block k hk he)⟩
theorem Mv.setc {E : Nat → Prop} {A W : World} {p : Addr} (h : Mv E A W) (hp : E p.block ∨ A.heap.size ≤ p.block) (v : Value) : Mv E A (W.setCell p v) :=
  ⟨h.os, h.tape, h.output, by simpa using h.size, fun k hk he => (heap_setCell_other _ _ _ _ (fun e => by rcases hp with q | q; exact he (e ▸ q); omega)).trans (h.block k hk he)⟩
theorem lt_of_heap {w : World} {b : Nat} {o : Obj} (h : w.heap[b]? = some o) : b < w.heap.size := (Array.getElem?_eq_some_iff.1 h).1
theorem Mv.cell {E : Nat → Prop} {W V : World} {a : Addr} {v : Value} (m : Mv E W V) (hE : ¬ E a.block) (h : W.cell? a = some v) : V.cell? a = some v := by
  rw [← h]
  exact World.cell?_of_block (m.block a.block (cell_lt h) hE)
theorem Mv.froz {E : Nat → Prop} {W V : World} {a : Addr} (m : Mv E W V) (hE : ¬ E a.block) (hl : a.block < W.heap.size) : V.frozen? a = W.frozen? a := by
  have := m.block a.block hl hE
  unfold World.frozen?
  rw [this]
theorem Mv.set1 {E : Nat → Prop} {W : World} {o : Nat} (h : E o) (v : Value) : Mv E W (W.setCell ⟨o, 0, none⟩ v) := (Mv.refl E W).setc (p := ⟨o, 0, none⟩) (.inl h) v
/-- A variable of one cell. -/
structure Cl (i : Nat) (v : Value) (W : World) : Prop where
  c : W.cell? ⟨i, 0, none⟩ = some v
  f : W.frozen? ⟨i, 0, none⟩ = false
theorem Cl.lt {i : Nat} {v : Value} {W : World} (h : Cl i v W) : i < W.heap.size := cell_lt h.c
theorem Cl.mv {i : Nat} {v : Value} {E : Nat → Prop} {W V : World} (h : Cl i v W) (m : Mv E W V) (hE : ¬ E i) : Cl i v V :=
  ⟨m.cell hE h.c, (m.froz (a := ⟨i, 0, none⟩) hE h.lt).trans h.f⟩
theorem Cl.set {i : Nat} {v : Value} {W : World} (h : Cl i v W) (u : Value) : Cl i u (W.setCell ⟨i, 0, none⟩ u) :=
  ⟨World.cell?_setCell_same' _ _ _ (by rw [h.c]; rfl), by rw [World.frozen?_setCell]; exact h.f⟩
theorem Cl.oth {i j : Nat} {v : Value} {W : World} (h : Cl i v W) (hij : i ≠ j) (u : Value) : Cl i v (W.setCell ⟨j, 0, none⟩ u) := h.mv (E := fun k => k = j) (Mv.set1 (E := fun k => k = j) rfl _) hij
theorem four_new (w : World) (a b c d : Value) (t : TypeId) : ∀ j u, [a, b, c, d][j]? = some u → (w.alloc (.cells #[a, b, c, d] t)).cell? ((⟨w.heap.size, 0, none⟩ : Addr).add j) = some u := by
  intro j u hj
  match j, hj with
  | 0, hj => simp at hj; subst hj; simp [Addr.add]
  | 1, hj => simp at hj; subst hj; simp [Addr.add]
  | 2, hj => simp at hj; subst hj; simp [Addr.add]
  | 3, hj => simp at hj; subst hj; simp [Addr.add]
theorem own_base {w : World} {b1 b2 : Nat} {e : TypeId} {size : Nat} {v : Value} {n : Nat} {xs : List Value} (h : w.ownsRow b1 e size v n xs) (hle : b2 ≤ b1) : w.ownsRow b2 e size v n xs :=
  ⟨h.1, h.2.imp id (fun ⟨g, c, cu, q1, q2, q3⟩ => ⟨g, c, cu, q1, Nat.le_trans hle q2, q3⟩)⟩
end Go.Proofs.YtiinhfbfciccnaaDoor
/- Settings in memory; the rows that slices.Backward makes of settings and of files. -/
namespace Go.Proofs.YtiinhfbfciccnaaDoor
open Go.RowKit Go.Shelf
attribute [local go_sem] Oper.semAt_some
/-- A setting: its section, key, value and number. -/
structure St where
  s : ByteArray
  k : ByteArray
  v : ByteArray
  n : Int
def St.val (x : St) : Value := .agg #[.string x.s, .string x.k, .string x.v, .int .i64 x.n]
def stC (x : St) : List Value := [.string x.s, .string x.k, .string x.v, .int .i64 x.n]
def stsC (l : List St) : List Value := l.flatMap stC
theorem stsC_snoc (l : List St) (x : St) : stsC (l ++ [x]) = stsC l ++ stC x := by simp [stsC]
/-- The cells of one setting. -/
structure St1 (w : World) (g o : Nat) (x : St) : Prop where
  c0 : w.cell? ⟨g, o, none⟩ = some (.string x.s)
  c1 : w.cell? ⟨g, o + 1, none⟩ = some (.string x.k)
  c2 : w.cell? ⟨g, o + 2, none⟩ = some (.string x.v)
  c3 : w.cell? ⟨g, o + 3, none⟩ = some (.int .i64 x.n)
theorem St1.mv {E : Nat → Prop} {W V : World} {g o : Nat} {x : St} (h : St1 W g o x) (m : Mv E W V) (hE : ¬ E g) : St1 V g o x := ⟨m.cell hE h.c0, m.cell hE h.c1, m.cell hE h.c2, m.cell hE h.c3⟩
/-- The settings l lie in block g from o on. -/
def StAt (w : World) (g o : Nat) (l : List St) : Prop := ∀ (j : Nat) (x : St), l[j]? = some x → St1 w g (o + j * 4) x
/-- The value is a slice that holds the settings l, outside E. -/
def SlIs (E : Nat → Prop) (w : World) (v : Value) (l : List St) : Prop := ∃ a cap, v = .slice a l.length cap ∧ (0 < l.length → ∃ g o, a = some ⟨g, o, none⟩ ∧ ¬ E g ∧ StAt w g o l)
theorem SlIs.mv {E E' : Nat → Prop} {W V : World} {v : Value} {l : List St} (h : SlIs E W v l) (m : Mv E W V) (gr : Gr E W E') : SlIs E' V v l := by
  obtain ⟨a, cap, hv, hl⟩ := h
  refine ⟨a, cap, hv, fun h0 => ?_⟩
  obtain ⟨g, o, ha, hg, hs⟩ := hl h0
  have hgl : g < W.heap.size := cell_lt (hs 0 _ (List.getElem?_eq_getElem h0)).c0
  exact ⟨g, o, ha, gr.free hgl hg, fun j x hx => (hs j x hx).mv m hg⟩
theorem SlIs.nil (E : Nat → Prop) (w : World) : SlIs E w (.slice none 0 0) [] := ⟨none, 0, rfl, fun h => absurd h (by decide)⟩
def encX (p : Nat × St) : Array Value := #[.int .i64 p.1, p.2.val]
/-- The first k with their places, from the end on. -/
def bk {α : Type} (l : List α) : Nat → List (Nat × α)
  | 0 => []
  | k + 1 => match l[k]? with
    | some x => (k, x) :: bk l k
    | none => bk l k
theorem bk_succ {α : Type} {l : List α} {k : Nat} {x : α} (h : l[k]? = some x) : bk l (k + 1) = (k, x) :: bk l k := by simp [bk, h]
theorem bk_snd {α : Type} (l : List α) : ∀ k, (bk l k).map Prod.snd = (l.take k).reverse
  | 0 => by simp [bk]
  | k + 1 => by
    rw [List.take_add_one]
    cases h : l[k]? with
    | none => simp [bk, h, bk_snd l k]
    | some x => simp [bk, h, bk_snd l k]
theorem bk_all {α : Type} (l : List α) : (bk l l.length).map Prod.snd = l.reverse := by rw [bk_snd, List.take_length]
set_option maxRecDepth 100000 in
set_option maxHeartbeats 2000000 in
theorem backS_row (l : List St) (b : Nat) (v : Value) (E : Nat → Prop) (W : World) (cv : W.cell? ⟨b, 0, none⟩ = some v) (eb : ¬ E b) (hs : SlIs E W v l) (hl : l.length ≤ 1000000000) :
    Row Tryd.prog 41 #[.pointer (some ⟨b, 0, none⟩)] encX (bk l l.length) E W := by
  intro u J Jx E1 V m g hJ hJx hY h0
  have d1 := m.cell eb cv
  have f1 : ¬ E1 b := g.free (cell_lt cv) eb
  obtain ⟨a, cap, rfl, hs1⟩ := hs.mv m g
  obtain ⟨n, hn⟩ : ∃ n, l.length = n := ⟨_, rfl⟩
  rw [hn] at d1 hs1 h0 hl
  have hN : Hid (l.length = n) := hn
  clear hn hs cv
  refine (callsIn_wide (n := 5)).1 ?_
  refine callsIn_of_wp Tryd.func41 rfl trivial ?_ rfl
  simp only [Tryd.ntmps41, List.size_toArray, List.length_cons, List.length_nil, Nat.reduceAdd, Nat.reduceSub, Array.replicate_succ, Array.replicate_zero, List.push_toArray, List.append_toArray, List.nil_append, List.cons_append]
  gi_wp2
  gi_loopw [3] (fun i wr => ∃ (k : Nat) (z : Int) (E2 : Nat → Prop), k ≤ n ∧ z + 1 = k ∧ i = .int .i64 z ∧ J (bk l k) E2 wr ∧ Mv E1 V wr ∧ Gr E1 V E2) (fun i _ => (intOf i + 1).toNat)
  case atStart => exact ⟨n, _, E1, Nat.le_refl _, by omega, rfl, h0, Mv.refl _ _, Gr.refl _ _⟩
  case round =>
    obtain ⟨k, z, E2, k0, hz, rfl, hj, hm, hg⟩ := hrel
    have d3 := hm.cell f1 d1
    cases k with
    | succ j =>
      obtain rfl : z = (j : Int) := by omega
      obtain ⟨x, hx⟩ : ∃ x, l[j]? = some x := ⟨_, List.getElem?_eq_getElem (by rw [hN.out]; omega)⟩
      rw [bk_succ hx] at hj
      obtain ⟨gb, o, rfl, hgb, hst⟩ := hs1 (by omega)
      obtain ⟨p0, p1, p2, p3⟩ := (hst j x hx).mv hm hgb
      obtain ⟨fn, tmps, assign, body, hy, hR⟩ := hY (j, x) _ E2 wr hj
      dsimp only [encX, St.val] at hy
      have hjn : (j : Int) < (n : Int) := by omega
      clear hz hst hx hs1
      gi_wp2
      refine (wide_round' hR).mono ?_
      rintro e W3 ⟨m3, (⟨rfl, E3, g3, hj3⟩ | ⟨rfl, E3, g3, hj3⟩)⟩
      · gi_wp2
        exact ⟨⟨j, _, E3, by omega, by omega, rfl, hj3, hm.trans hg m3, hg.trans hm.size g3⟩, by simp [intOf]⟩
      · gi_wp2
        refine bodyPost_ret (results_none rfl _ _ _) rfl ?_
        exact ⟨⟨_, rfl⟩, hm.trans hg m3, .inr ⟨E3, hg.trans hm.size g3, hj3⟩⟩
    | zero =>
      obtain rfl : z = -1 := by omega
      gi_wp2
      go_end0
      exact ⟨⟨_, rfl⟩, hm, .inl ⟨E2, hg, hj⟩⟩
end Go.Proofs.YtiinhfbfciccnaaDoor
/- Files in memory; the row that slices.Backward makes of files; the set of headings that were emptied. -/
namespace Go.Proofs.YtiinhfbfciccnaaDoor
open Go.RowKit Go.Shelf
attribute [local go_sem] Oper.semAt_some
/-- The value is a slice of files, each with its settings, outside E. -/
def FsIs (E : Nat → Prop) (w : World) (v : Value) (fs : List (Value × List St)) : Prop :=
  ∃ a cap, v = .slice a fs.length cap ∧ (0 < fs.length → ∃ g o, a = some ⟨g, o, none⟩ ∧ ¬ E g ∧ ∀ (j : Nat) p, fs[j]? = some p → w.cell? ⟨g, o + j, none⟩ = some p.1) ∧ ∀ p ∈ fs, SlIs E w p.1 p.2
theorem FsIs.mv {E E' : Nat → Prop} {W V : World} {v : Value} {l : List (Value × List St)} (h : FsIs E W v l) (m : Mv E W V) (gr : Gr E W E') : FsIs E' V v l := by
  obtain ⟨a, cap, hv, hl, hf⟩ := h
  refine ⟨a, cap, hv, fun h0 => ?_, fun p hp => (hf p hp).mv m gr⟩
  obtain ⟨g, o, ha, hg, hs⟩ := hl h0
  have hgl : g < W.heap.size := cell_lt (hs 0 _ (List.getElem?_eq_getElem h0))
  exact ⟨g, o, ha, gr.free hgl hg, fun j x hx => m.cell hg (hs j x hx)⟩
def encF (p : Nat × (Value × List St)) : Array Value := #[.int .i64 p.1, .agg #[p.2.1]]
set_option maxRecDepth 100000 in
set_option maxHeartbeats 2000000 in
theorem backF_row (l : List (Value × List St)) (b : Nat) (v : Value) (E : Nat → Prop) (W : World) (cv : W.cell? ⟨b, 0, none⟩ = some v) (eb : ¬ E b) (hs : FsIs E W v l) (hl : l.length ≤ 1000000000) :
    Row Tryd.prog 40 #[.pointer (some ⟨b, 0, none⟩)] encF (bk l l.length) E W := by
  intro u J Jx E1 V m g hJ hJx hY h0
  have d1 := m.cell eb cv
  have f1 : ¬ E1 b := g.free (cell_lt cv) eb
  obtain ⟨a, cap, rfl, hs1, hfs⟩ := hs.mv m g
  obtain ⟨n, hn⟩ : ∃ n, l.length = n := ⟨_, rfl⟩
  rw [hn] at d1 hs1 h0 hl
  have hN : Hid (l.length = n) := hn
  clear hn hs cv
  refine (callsIn_wide (n := 5)).1 ?_
  refine callsIn_of_wp Tryd.func40 rfl trivial ?_ rfl
  simp only [Tryd.ntmps40, List.size_toArray, List.length_cons, List.length_nil, Nat.reduceAdd, Nat.reduceSub, Array.replicate_succ, Array.replicate_zero, List.push_toArray, List.append_toArray, List.nil_append, List.cons_append]
  gi_wp2
  gi_loopw [3] (fun i wr => ∃ (k : Nat) (z : Int) (E2 : Nat → Prop), k ≤ n ∧ z + 1 = k ∧ i = .int .i64 z ∧ J (bk l k) E2 wr ∧ Mv E1 V wr ∧ Gr E1 V E2) (fun i _ => (intOf i + 1).toNat)
  case atStart => exact ⟨n, _, E1, Nat.le_refl _, by omega, rfl, h0, Mv.refl _ _, Gr.refl _ _⟩
  case round =>
    obtain ⟨k, z, E2, k0, hz, rfl, hj, hm, hg⟩ := hrel
    have d3 := hm.cell f1 d1
    cases k with
    | succ j =>
      obtain rfl : z = (j : Int) := by omega
      obtain ⟨x, hx⟩ : ∃ x, l[j]? = some x := ⟨_, List.getElem?_eq_getElem (by rw [hN.out]; omega)⟩
      rw [bk_succ hx] at hj
      obtain ⟨gb, o, rfl, hgb, hst⟩ := hs1 (by omega)
      have p0 := hm.cell hgb (hst j x hx)
      obtain ⟨fn, tmps, assign, body, hy, hR⟩ := hY (j, x) _ E2 wr hj
      dsimp only [encF] at hy
      have hjn : (j : Int) < (n : Int) := by omega
      obtain ⟨a1, n1, c1, hxs, _⟩ : ∃ a n c, x.1 = .slice a n c ∧ True := by
        obtain ⟨a, c, h, _⟩ := hfs x (List.mem_of_getElem? hx); exact ⟨a, _, c, h, trivial⟩
      rw [hxs] at p0 hy
      clear hz hst hx hs1 hxs
      gi_wp2
      refine (wide_round' hR).mono ?_
      rintro e W3 ⟨m3, (⟨rfl, E3, g3, hj3⟩ | ⟨rfl, E3, g3, hj3⟩)⟩
      · gi_wp2
        exact ⟨⟨j, _, E3, by omega, by omega, rfl, hj3, hm.trans hg m3, hg.trans hm.size g3⟩, by simp [intOf]⟩
      · gi_wp2
        refine bodyPost_ret (results_none rfl _ _ _) rfl ?_
        exact ⟨⟨_, rfl⟩, hm.trans hg m3, .inr ⟨E3, hg.trans hm.size g3, hj3⟩⟩
    | zero =>
      obtain rfl : z = -1 := by omega
      gi_wp2
      go_end0
      exact ⟨⟨_, rfl⟩, hm, .inl ⟨E2, hg, hj⟩⟩
theorem laidOut : laidOutB Tryd.prog = true := by kernel_rfl
theorem rowH : (71 : TypeId) < Tryd.prog.types.size := of_decide_eq_true (by kernel_rfl)
theorem wideH : (match Tryd.prog.underlying 71 with | some (.array _ _) | some (.struct _) => true | _ => false) = true := by kernel_rfl
set_option maxRecDepth 100000 in
/-- Headings are keys of a map. -/
theorem lawH : Maps.Keyed Tryd.prog 71 := .of_law (deep_law_laid laidOut (m := 2) (by omega) rowH (by kernel_rfl) wideH)
def hdV (a b : ByteArray) : Value := .agg #[.string a, .string b]
set_option maxRecDepth 100000 in
theorem typesN : ∃ n, Tryd.prog.types.size = n + 1 := ⟨_, (Nat.succ_pred_eq_of_pos (Nat.lt_of_le_of_lt (Nat.zero_le _) rowH)).symm⟩
theorem cellsH : Tryd.prog.cellsOf 71 = 2 := by kernel_rfl
theorem cellsStr : Tryd.prog.cellsOf 9 = 1 := by kernel_rfl
theorem keyTypeH : Tryd.prog.keyType 71 = true := by kernel_rfl
theorem key_mk (a b : ByteArray) (ha : a.size ≤ maxLen) (hb : b.size ≤ maxLen) : ∃ kl, keyOf Tryd.prog 71 (hdV a b) = some kl := by
  obtain ⟨n, hn⟩ := typesN
  have hf : (hdV a b).formed Tryd.prog 71 = true := by simp [hdV, Value.formed, Tryd.underlying71, cellsH]
  unfold keyOf
  rw [Tryd.underlying71]
  simp only [keyTypeH, hf, Bool.and_self, if_true, Option.map_eq_some_iff]
  rw [hn]
  simp [hdV, Program.keyLits, Tryd.underlying71, Tryd.underlying9, cellsH, cellsStr, ha, hb, Value.cells]
/-- A heading is among S. -/
def inE (S : List (ByteArray × ByteArray)) (a c : ByteArray) : Bool := S.any fun p => decide (p.1 = a ∧ p.2 = c)
/-- Block b is the set of the headings S. -/
def Em (w : World) (b n : Nat) (S : List (ByteArray × ByteArray)) : Prop :=
  ∃ D, w.ownsMap Tryd.prog 71 (unitElem (H := Unit)) b n D ∧ ∀ a c kl, keyOf Tryd.prog 71 (hdV a c) = some kl → Maps.has D kl = inE S a c
theorem Em.new (w : World) : Em (w.alloc (.map #[] 0)) w.heap.size 0 [] := ⟨_, World.ownsMap_made _ _ _ _, fun _ _ _ _ => by simp [Maps.has, inE]⟩
theorem Em.mv {w w' : World} {b n : Nat} {S : List (ByteArray × ByteArray)} {E : Nat → Prop} (h : Em w b n S) (m : Mv E w w') (hE : ¬ E b) : Em w' b n S := by
  obtain ⟨D, ⟨es, c, hb, q⟩, hD⟩ := h
  exact ⟨D, ⟨es, c, (m.block b (Array.getElem?_eq_some_iff.1 hb).1 hE).trans hb, q⟩, hD⟩
theorem Em.lt {w : World} {b n : Nat} {S : List (ByteArray × ByteArray)} (h : Em w b n S) : b < w.heap.size := by obtain ⟨D, h, _⟩ := h; exact h.lt
theorem Em.mono {w : World} {b n m : Nat} {S : List (ByteArray × ByteArray)} (h : Em w b n S) (hm : n ≤ m) : Em w b m S := by obtain ⟨D, h, h2⟩ := h; exact ⟨D, h.mono hm, h2⟩
theorem Em.put {w : World} {b n : Nat} {S : List (ByteArray × ByteArray)} {D : DataW Unit} {a c : ByteArray} {kl : Lit} (h : w.ownsMap Tryd.prog 71 (unitElem (H := Unit)) b n (D.put kl (.agg []))) (hM : Maps.IsMap D)
    (hk : keyOf Tryd.prog 71 (hdV a c) = some kl) (hD : ∀ a c kl, keyOf Tryd.prog 71 (hdV a c) = some kl → Maps.has D kl = inE S a c) : Em w b n ((a, c) :: S) := by
  refine ⟨_, h, fun a' c' kl' hk' => ?_⟩
  by_cases e : kl' = kl
  · subst e
    have := lawH.inj hk hk'
    simp only [hdV, Value.agg.injEq, Array.mk.injEq, List.cons.injEq, Value.string.injEq, and_true] at this
    rw [Maps.has_put_same hM (lawH.key hk), this.1, this.2]; simp [inE]
  · rw [Maps.has_put_other e, hD a' c' kl' hk']
    have hne : ¬ (a = a' ∧ c = c') := fun h => e (by
      have h2 := hk'
      rw [← h.1, ← h.2, hk] at h2
      exact (Option.some.inj h2).symm)
    simp [inE, hne]
end Go.Proofs.YtiinhfbfciccnaaDoor
/- The contract of slices.Reverse over settings that the call owns. -/
namespace Go.Proofs.YtiinhfbfciccnaaDoor
open Go.RowKit Go.Shelf Go.Sort
abbrev stInh : Inhabited St := ⟨⟨⟨#[]⟩, ⟨#[]⟩, ⟨#[]⟩, 0⟩⟩
theorem stC_len (x : St) : (stC x).length = 4 := rfl
theorem stsC_len : ∀ l : List St, (stsC l).length = l.length * 4
  | [] => rfl
  | x :: r => by
    have := stsC_len r
    simp only [stsC, List.flatMap_cons, List.length_append] at this ⊢
    rw [this, stC_len, List.length_cons]; omega
theorem stsC_at : ∀ (l : List St) (j : Nat) (x : St) (i : Nat), l[j]? = some x → i < 4 → (stsC l)[j * 4 + i]? = (stC x)[i]?
  | [], j, x, i, h, _ => by simp at h
  | y :: r, 0, x, i, h, hi => by
    simp at h; subst h
    simp only [stsC, List.flatMap_cons, Nat.zero_mul, Nat.zero_add]
    rw [List.getElem?_append_left (by rw [stC_len]; exact hi)]
  | y :: r, j + 1, x, i, h, hi => by
    simp only [stsC, List.flatMap_cons]
    rw [List.getElem?_append_right (by rw [stC_len]; omega), stC_len]
    have := stsC_at r j x i (by simpa using h) hi
    rw [show (j + 1) * 4 + i - 4 = j * 4 + i by omega]
    exact this
theorem stsC_get (l : List St) (t : Nat) (h : t < l.length * 4) : (stsC l)[t]? = some ((stC (@getElem! _ _ _ _ _ stInh l.toArray (t / 4)))[t % 4]!) := by
  have h1 : t / 4 < l.length := by omega
  have h2 := stsC_at l (t / 4) l[t / 4] (t % 4) (List.getElem?_eq_getElem h1) (by omega)
  rw [show t / 4 * 4 + t % 4 = t by omega] at h2
  rw [h2]
  letI := stInh
  have e : l.toArray[t / 4]! = l[t / 4] := by rw [getElem!_pos l.toArray (t / 4) (by simpa using h1)]; simp
  rw [e, List.getElem?_eq_getElem (by rw [stC_len]; omega), getElem!_pos _ _ (by rw [stC_len]; omega)]
theorem sts_one (x : St) : ∀ v ∈ stC x, v.oneCell' = true := fun v hv => by simp [stC] at hv; rcases hv with rfl | rfl | rfl | rfl <;> rfl
theorem reverse_any (base : Nat) (v : Value) (l : List St) (w : World) (h : w.ownsRow base 44 4 v l.length (stsC l)) (hl : l.length ≤ 1000000000) :
    Calls Tryd.prog 28 #[v] w fun e w' => e = .returned (.tuple #[]) ∧ w'.ownsRow base 44 4 v l.length (stsC l.reverse) ∧ Mv (fun k => v.ownBlock = some k) w w' := by
  letI := stInh
  obtain ⟨h1, h2⟩ := h
  rcases h2 with ⟨rfl, h0⟩ | ⟨g, cap, cur, rfl, hb, hh, hn, hc, hz, hx⟩
  · refine (Tryd.slices_Reverse_empty none 0 w).mono ?_
    rintro e w' ⟨rfl, rfl⟩
    refine ⟨rfl, ?_, Mv.refl _ _⟩
    have : l = [] := List.length_eq_zero_iff.1 h0
    subst this
    exact World.ownsRow_nil _ _ _ _
  · have hH : HoldsK stC 4 w g 0 l.toArray := by
      intro t ht
      rw [size_flatK] at ht
      have ht' : t < l.length * 4 := by simpa using ht
      have hcur : cur[t]? = some ((stC l.toArray[t / 4]!)[t % 4]!) := by
        have := stsC_get l t ht'
        rw [← hx, List.getElem?_take_of_lt ht', Array.getElem?_toList] at this
        exact this
      refine ⟨?_, ?_⟩
      · rw [get_flatK _ _ _ _ ht, Nat.zero_add]
        unfold World.cell?
        rw [hh]
        exact hcur
      · unfold World.frozen?
        rw [hh]
        simp
    have hr := Tryd.slices_Reverse 4 Tryd.isAgg44 Tryd.sizeOf44 stC stC_len sts_one g 0 cap l.toArray w hH (by simp; omega)
    rw [show l.toArray.size = l.length by simp] at hr
    refine hr.mono ?_
    rintro e w' ⟨rfl, q, rfl⟩
    have hg2 : (putRowK stC 4 (Sort.ahead w q) g 0 l.toArray.reverse).heap[g]? = some (.cells (putCells id 0 (flatK stC 4 l.toArray.reverse) cur) 44 (0, 0)) := by
      show ((Sort.ahead w q).heap.modify g _)[g]? = _
      rw [Array.getElem?_modify]
      simp only [if_true]
      show (w.heap[g]?).map _ = _
      rw [hh]; rfl
    refine ⟨rfl, ⟨by rw [stsC_len, List.length_reverse], .inr ⟨g, cap, _, rfl, hb, hg2, hn, hc, by simp [putCells, hz], ?_⟩⟩, ?_⟩
    · refine List.ext_getElem? fun t => ?_
      by_cases ht : t < l.length * 4
      · rw [List.getElem?_take_of_lt ht, stsC_get l.reverse t (by simpa using ht), Array.getElem?_toList]
        have hc4 : t < cur.size := by rw [hz]; exact Nat.lt_of_lt_of_le ht (Nat.mul_le_mul_right 4 hn)
        have hF : t < (flatK stC 4 l.toArray.reverse).size := by simpa using ht
        simp only [putCells, Array.getElem?_mapIdx, Array.getElem?_eq_getElem hc4, Option.map_some, Nat.zero_le, Nat.zero_add, true_and, Nat.sub_zero, id]
        rw [if_pos hF, get_flatK _ _ _ _ (by simpa using ht)]
        simp
      · rw [List.getElem?_eq_none (by rw [List.length_take]; omega), List.getElem?_eq_none (by rw [stsC_len, List.length_reverse]; omega)]
    · refine ⟨rfl, rfl, rfl, ?_, fun k hk hne => ?_⟩
      · show _ ≤ ((Sort.ahead w q).heap.modify g _).size
        rw [Array.size_modify]; exact Nat.le_refl _
      · show ((Sort.ahead w q).heap.modify g _)[k]? = _
        rw [Array.getElem?_modify, if_neg (fun e => hne (by simp [Value.ownBlock, e]))]
        rfl
end Go.Proofs.YtiinhfbfciccnaaDoor
/- What unitfile.Merge keeps while it goes through files and settings from the end on. -/
namespace Go.Proofs.YtiinhfbfciccnaaDoor
open Go.RowKit Go.Shelf
attribute [local go_sem] Oper.semAt_some
set_option maxHeartbeats 1000000 in
theorem backS_any (a : Option Addr) (n c : Nat) (w : World) : Calls Tryd.prog 27 #[.slice a n c] w fun e w' => e = .returned (.func (.func 41) #[] #[.pointer (some ⟨w.heap.size, 0, none⟩)]) ∧ w' = w.alloc (.cells #[.slice a n c] 23) := by
  go_enter Tryd.func27, Tryd.ntmps27
  go_wp2
  go_ret
  exact ⟨rfl, rfl⟩
set_option maxHeartbeats 1000000 in
theorem backF_any (a : Option Addr) (n c : Nat) (w : World) : Calls Tryd.prog 26 #[.slice a n c] w fun e w' => e = .returned (.func (.func 40) #[] #[.pointer (some ⟨w.heap.size, 0, none⟩)]) ∧ w' = w.alloc (.cells #[.slice a n c] 33) := by
  go_enter Tryd.func26, Tryd.ntmps26
  go_wp2
  go_ret
  exact ⟨rfl, rfl⟩
abbrev Sp := List (ByteArray × ByteArray) × List St
/-- One setting, from the end on. -/
def stp (p : Sp) (x : St) : Sp := if x.v = ⟨#[]⟩ then ((x.s, x.k) :: p.1, p.2) else if inE p.1 x.s x.k then p else (p.1, p.2 ++ [x])
/-- The variables of Merge. -/
structure MI (H : Nat) (p : Sp) (v : Value) (W : World) : Prop where
  re : Cl H (.slice none 0 0) W
  em : Em W (H + 1) p.1.length p.1
  cm : Cl (H + 2) (.map (some (H + 1))) W
  cs : Cl (H + 3) v W
  ow : W.ownsRow (H + 4) 44 4 v p.2.length (stsC p.2)
def MT (H : Nat) (v : Value) (k : Nat) : Prop := (H ≤ k ∧ k < H + 4) ∨ v.ownBlock = some k
theorem MI.mv {H : Nat} {p : Sp} {v : Value} {E : Nat → Prop} {W V : World} (h : MI H p v W) (m : Mv E W V) (hE : ∀ k, MT H v k → ¬ E k) : MI H p v V :=
  ⟨h.re.mv m (hE _ (.inl (by omega))), h.em.mv m (hE _ (.inl (by omega))), h.cm.mv m (hE _ (.inl (by omega))), h.cs.mv m (hE _ (.inl (by omega))), own_mv h.ow m (fun g hg => hE g (.inr hg))⟩
theorem MI.lo {H : Nat} {p : Sp} {v : Value} {W : World} (h : MI H p v W) (k : Nat) (hk : MT H v k) : k < W.heap.size := by
  rcases hk with hk | hk
  · have := h.cs.lt; omega
  · exact (h.ow.lt k hk).2
/-- The settings of seq are still to come. -/
def MJ (H : Nat) (T : Sp) (seq : List St) (E : Nat → Prop) (W : World) : Prop :=
  ∃ p v, ((∀ k, E k ↔ MT H v k) ∧ Hid (seq.foldl stp p = T) ∧ p.1.length + seq.length ≤ 1000000000 ∧ p.2.length + seq.length ≤ 1000000000 ∧ ∀ x ∈ seq, x.s.size ≤ 1000000000 ∧ x.k.size ≤ 1000000000) ∧ MI H p v W
theorem MJ.ter (H B : Nat) (T : Sp) : Ter B (MJ H T) := by
  refine ⟨?_, ?_⟩
  · rintro s E W V ⟨p, v, ⟨hE, h⟩, hm⟩ m
    exact ⟨p, v, ⟨hE, h⟩, hm.mv m (fun k hk h => h.1 ((hE k).2 hk))⟩
  · rintro s E W ⟨p, v, ⟨hE, h⟩, hm⟩ k hk
    exact hm.lo k ((hE k).1 hk)
def MX (_ : Code) (_ : Nat → Prop) (_ : World) : Prop := False
theorem MX.ter (B : Nat) : Ter B MX := ⟨fun _ _ _ _ h _ => h.elim, fun _ _ _ h => h.elim⟩
theorem infoSt : (Tryd.prog.info? 44).map (fun i => (i.zero, i.size, i.bytes)) = some (some (.agg #[.string ⟨#[]⟩, .string ⟨#[]⟩, .string ⟨#[]⟩, .int .i64 0]), 4, 56) := by kernel_rfl
theorem zeroU (w : World) : (zeroValue 72).run Tryd.prog w = .ok (.agg #[]) w := by kernel_rfl
/-- What one more setting leaves. -/
theorem MI.more {H : Nat} {em : List (ByteArray × ByteArray)} {out : List St} {x : St} {v v' : Value} {W U4 w4 : World} (h : MI H (em, out) v W) (m : Mv (fun _ => False) W U4) (hgrow : U4.grownBy w4 v.ownBlock) (hown' : w4.ownsRow (H + 4) 44 4 v' (out.length + 1) (stsC out ++ stC x))
    (hat : v'.ownBlock = v.ownBlock ∨ v'.ownBlock = some U4.heap.size) : Cl (H + 3) v w4 ∧ MI H (em, out ++ [x]) v' (w4.setCell ⟨H + 3, 0, none⟩ v') ∧ Mv (MT H v) W (w4.setCell ⟨H + 3, 0, none⟩ v') ∧ ∀ k, MT H v' k → MT H v k ∨ W.heap.size ≤ k := by
  have hv : ∀ k, v.ownBlock = some k → H + 4 ≤ k := fun k e => (h.ow.lt k e).1
  have hv' : ∀ k, v'.ownBlock = some k → H + 4 ≤ k := fun k e => (hown'.lt k e).1
  have mg : Mv (fun k => v.ownBlock = some k) W w4 := (m.mono (fun _ _ h => h.elim)).grown hgrow (fun k e => .inl e)
  have n0 : ∀ k, k < H + 4 → ¬ v.ownBlock = some k := fun k hk e => by have := hv k e; omega
  have c3 := h.cs.mv mg (n0 _ (by omega))
  have ms : Mv (fun k => k = H + 3) w4 (w4.setCell ⟨H + 3, 0, none⟩ v') := Mv.set1 (E := fun k => k = H + 3) rfl _
  refine ⟨c3, ⟨(h.re.mv mg (n0 _ (by omega))).mv ms (by omega), (h.em.mv mg (n0 _ (by omega))).mv ms (by omega), (h.cm.mv mg (n0 _ (by omega))).mv ms (by omega), c3.set v', ?_⟩, ?_, ?_⟩
  · have := own_mv hown' ms (fun g hg e => by have := hv' g hg; omega)
    simpa [stsC_snoc] using this
  · exact (mg.mono (fun k _ e => .inr e)).trans' (ms.mono (fun k _ e => .inl (by omega)))
  · intro k hk
    rcases hk with hk | hk
    · exact .inl (.inl hk)
    · rcases hat with e | e
      · exact .inl (.inr (e ▸ hk))
      · rw [hk] at e
        have := m.size
        cases e; exact .inr this
end Go.Proofs.YtiinhfbfciccnaaDoor
/- The contract of unitfile.Merge. -/
namespace Go.Proofs.YtiinhfbfciccnaaDoor
open Go.RowKit Go.Shelf
attribute [local go_sem] Oper.semAt_some
/-- All settings of files that come from the end on. -/
def flatR (rest : List (Nat × (Value × List St))) : List St := rest.flatMap fun q => q.2.2.reverse
theorem str_nil (s : ByteArray) : (s.toList == []) = decide (s = ⟨#[]⟩) := by
  rw [Lib.toList_data]
  by_cases h : s = ⟨#[]⟩
  · subst h; rfl
  · have : s.data.toList ≠ [] := fun e => h (by rw [← Lib.mk_data s, e])
    rw [decide_eq_false h]
    simpa using this
theorem bk_mem {α : Type} {l : List α} : ∀ {k : Nat} {q : Nat × α}, q ∈ bk l k → q.2 ∈ l
  | 0, q, h => by simp [bk] at h
  | k + 1, q, h => by
    unfold bk at h
    split at h
    · rename_i x hx
      rcases List.mem_cons.1 h with rfl | h
      · exact List.mem_of_getElem? hx
      · exact bk_mem h
    · exact bk_mem h
set_option maxRecDepth 100000 in
set_option maxHeartbeats 8000000 in
theorem merge_any (a : Option Addr) (n c : Nat) (fs : List (Value × List St)) (w : World) (hfs : FsIs (fun _ => False) w (.slice a n c) fs) (hl : fs.length ≤ 1000000) (ht : (flatR (bk fs fs.length)).length ≤ 1000000000) (hz : ∀ x ∈ flatR (bk fs fs.length), x.s.size ≤ 1000000000 ∧ x.k.size ≤ 1000000000) (T : Sp) (hT : (flatR (bk fs fs.length)).foldl stp ([], []) = T) :
    Calls Tryd.prog 12 #[.slice a n c] w fun e w' => ∃ v, e = .returned (.agg #[v]) ∧ w'.ownsRow w.heap.size 44 4 v T.2.length (stsC T.2.reverse) ∧ Below w.heap.size w w' := by
  obtain ⟨i0, hinf, hz0, hz1, hz2⟩ := info_parts infoSt
  have hTH : Hid ((flatR (bk fs fs.length)).foldl stp ([], []) = T) := hT
  clear hT
  have hmm := @run_makeMap Tryd.prog
  obtain ⟨W0, hW0⟩ : ∃ W0, (((w.alloc (.cells #[.slice none 0 0] 25)).alloc (.map #[] 0)).alloc (.cells #[.map (some (w.heap.size + 1))] 63)).alloc (.cells #[.slice none 0 0] 23) = W0 := ⟨_, rfl⟩
  have hs0 : W0.heap.size = w.heap.size + 4 := by rw [← hW0]; simp
  have m0 : ∀ F : Nat → Prop, Mv F w W0 := fun F => by rw [← hW0]; exact (((Mv.alloc _ _ _).trans' (Mv.alloc _ _ _)).trans' (Mv.alloc _ _ _)).trans' (Mv.alloc _ _ _)
  have hMI : MI w.heap.size ([], []) (.slice none 0 0) W0 := by
    rw [← hW0]
    have k0 : Cl w.heap.size (.slice none 0 0) (w.alloc (.cells #[.slice none 0 0] 25)) := ⟨cell_at rfl rfl, World.frozen?_alloc_new _ _ _ _⟩
    have k1 := Em.new (w.alloc (.cells #[.slice none 0 0] 25))
    rw [World.size_alloc] at k1
    have k2 : Cl (w.heap.size + 2) (.map (some (w.heap.size + 1))) (((w.alloc (.cells #[.slice none 0 0] 25)).alloc (.map #[] 0)).alloc (.cells #[.map (some (w.heap.size + 1))] 63)) := by
      refine ⟨cell_at (by simp) rfl, ?_⟩
      have := World.frozen?_alloc_new ((w.alloc (.cells #[.slice none 0 0] 25)).alloc (.map #[] 0)) #[.map (some (w.heap.size + 1))] 63 0
      simpa using this
    have k3 : Cl (w.heap.size + 3) (.slice none 0 0) ((((w.alloc (.cells #[.slice none 0 0] 25)).alloc (.map #[] 0)).alloc (.cells #[.map (some (w.heap.size + 1))] 63)).alloc (.cells #[.slice none 0 0] 23)) := by
      refine ⟨cell_at (by simp) rfl, ?_⟩
      have := World.frozen?_alloc_new (((w.alloc (.cells #[.slice none 0 0] 25)).alloc (.map #[] 0)).alloc (.cells #[.map (some (w.heap.size + 1))] 63)) #[.slice none 0 0] 23 0
      simpa using this
    exact ⟨k0.mv (E := fun _ => False) (((Mv.alloc _ _ _).trans' (Mv.alloc _ _ _)).trans' (Mv.alloc _ _ _)) (fun h => h), k1.mv (E := fun _ => False) ((Mv.alloc _ _ _).trans' (Mv.alloc _ _ _)) (fun h => h), k2.mv (E := fun _ => False) (Mv.alloc _ _ _) (fun h => h), k3, World.ownsRow_nil _ _ _ _⟩
  refine (callsIn_wide (n := 5)).1 ?_
  refine callsIn_of_wp_marks Tryd.func12 rfl trivial ?_ rfl
  simp only [Tryd.ntmps12, List.size_toArray, List.length_cons, List.length_nil, Nat.reduceAdd, Nat.reduceSub, Array.replicate_succ, Array.replicate_zero, List.push_toArray, List.append_toArray, List.nil_append, List.cons_append]
  gi_wp2_with (rw [hW0])
  clear hW0
  refine ⟨trivial, (callsIn_wide.2 (backF_any a n c W0)).mono ?_⟩
  rintro e W1 ⟨rfl, hW1⟩
  have m1 : ∀ F : Nat → Prop, Mv F W0 W1 := fun F => by rw [hW1]; exact Mv.alloc _ _ _
  have hs1 : W1.heap.size = w.heap.size + 5 := by rw [hW1]; simp [hs0]
  have cs1 : W1.cell? ⟨W0.heap.size, 0, none⟩ = some (.slice a n c) := by rw [hW1]; exact cell_at rfl rfl
  clear hW1
  obtain ⟨E, hE⟩ : ∃ E : Nat → Prop, ∀ k, E k ↔ MT w.heap.size (.slice none 0 0) k := ⟨_, fun _ => Iff.rfl⟩
  have nE : ∀ k, (k < w.heap.size ∨ w.heap.size + 4 ≤ k) → ¬ E k := fun k hk h => by
    rcases (hE k).1 h with q | q
    · omega
    · simp [Value.ownBlock] at q
  have hfs1 : FsIs E W1 (.slice a n c) fs := by
    obtain ⟨a', c', hv, h1, h2⟩ := hfs
    refine FsIs.mv (E := E) (W := w) ⟨a', c', hv, fun h0 => ?_, fun p hp => ?_⟩ ((m0 _).trans' (m1 _)) (Gr.refl _ _)
    · obtain ⟨g, o, e1, _, e2⟩ := h1 h0
      exact ⟨g, o, e1, nE _ (.inl (cell_lt (e2 0 _ (List.getElem?_eq_getElem h0)))), e2⟩
    · obtain ⟨a2, c2, hv2, h3⟩ := h2 p hp
      refine ⟨a2, c2, hv2, fun h0 => ?_⟩
      obtain ⟨g, o, e1, _, e2⟩ := h3 h0
      exact ⟨g, o, e1, nE _ (.inl (cell_lt (e2 0 _ (List.getElem?_eq_getElem h0)).c0)), e2⟩
  have hrow := backF_row fs W0.heap.size (.slice a n c) E W1 cs1 (nE _ (.inr (by omega))) hfs1 (by omega)
  rw [hs0] at hrow
  have tI : Ter W1.heap.size (fun rest E W => (∀ q ∈ rest, q.2 ∈ fs) ∧ MJ w.heap.size T (flatR rest) E W) := ((MJ.ter w.heap.size W1.heap.size T).comp flatR).and _
  have h0I : MJ w.heap.size T (flatR (bk fs fs.length)) E W1 := ⟨([], []), _, ⟨hE, hTH, by simpa using ht, by simpa using ht, hz⟩, hMI.mv (m1 (fun _ => False)) (fun _ _ h => h)⟩
  gi_wp2_with fail
  refine loop_out (gf := 40) (lb := #[.pointer (some ⟨w.heap.size + 4, 0, none⟩)]) rfl (enters_of Tryd.func40 (by kernel_rfl) rfl) hrow (fun _ => rfl) (fun rest E W => (∀ q ∈ rest, q.2 ∈ fs) ∧ MJ w.heap.size T (flatR rest) E W) MX tI (MX.ter _) ⟨fun q hq => bk_mem hq, h0I⟩ ?round ?done ?stop
  case round =>
    rintro l1 hl1 ⟨ix, sv, l⟩ rest E2 U hi hm hgr hEl ⟨r1, hrec⟩
    have hlr : l1 < U.heap.size := lt_of_heap hrec
    have hmem : SlIs E2 U sv l := by
      obtain ⟨_, _, _, _, h⟩ := hfs1.mv hm hgr
      exact h (sv, l) (hi.1 _ (List.mem_cons_self ..))
    obtain ⟨a2, c2, rfl, hsl⟩ := hmem
    simp only [encF]
    gi_wp2
    refine ⟨⟨Mv.alloc _ _ _, Below.heap_alloc _ _ _ hlr⟩, fun U2 tw => ?_⟩
    obtain ⟨⟨hin, hi2⟩, hm2⟩ := tw.go tI hi (Mv.alloc _ _ _) hm (Nat.le_refl _) (by omega) hEl
    have hsl3 : SlIs E2 U2 (.slice a2 l.length c2) l := by
      obtain ⟨_, _, _, _, h⟩ := hfs1.mv hm2 hgr
      exact h (_, l) (hin _ (List.mem_cons_self ..))
    have cf : U2.cell? ⟨U.heap.size, 0, none⟩ = some (.slice a2 l.length c2) := tw.mv.cell (show ¬ U.heap.size = l1 by omega) (cell_at rfl rfl)
    obtain ⟨r2, hr2⟩ := tw.here
    have hin' : ∀ q ∈ rest, q.2 ∈ fs := fun q hq => hin q (List.mem_cons_of_mem _ hq)
    have hlow := (MJ.ter w.heap.size 0 T).low _ _ _ hi2
    clear hsl tw hi hm hrec hin
    gi_wp2_with fail
    refine ⟨trivial, (CallsIn.inRound l1 (callsIn_wide.2 (backS_any a2 l.length c2 U2))).mono ?_⟩
    rintro e U3 ⟨rfl, hU3⟩
    have m3 : ∀ F : Nat → Prop, Mv F U2 U3 := fun F => by rw [hU3]; exact Mv.alloc _ _ _
    have hs3 : U3.heap.size = U2.heap.size + 1 := by rw [hU3]; simp
    have cs3 : U3.cell? ⟨U2.heap.size, 0, none⟩ = some (.slice a2 l.length c2) := by rw [hU3]; exact cell_at rfl rfl
    clear hU3
    have hi3 := (MJ.ter w.heap.size 0 T).keep _ _ _ _ hi2 (m3 _)
    have hfl : flatR ((ix, Value.slice a2 l.length c2, l) :: rest) = (bk l l.length).map Prod.snd ++ flatR rest := by rw [bk_all]; rfl
    rw [hfl] at hi3
    have hll : l.length ≤ 1000000000 := by
      obtain ⟨p, v, ⟨_, _, h, _⟩, _⟩ := hi3
      rw [bk_all] at h; simp only [List.length_append, List.length_reverse] at h; omega
    have hrowS := backS_row l U2.heap.size (.slice a2 l.length c2) E2 U3 cs3 (fun h => by have := hlow _ h; omega) (hsl3.mv (m3 _) (Gr.refl _ _)) hll
    have tJ : Ter U3.heap.size (fun (r : List (Nat × St)) E W => MJ w.heap.size T (r.map Prod.snd ++ flatR rest) E W) := (MJ.ter w.heap.size U3.heap.size T).comp (fun (r : List (Nat × St)) => r.map Prod.snd ++ flatR rest)
    gi_wp2_with fail
    refine loop_in ⟨_, ((m3 (fun _ => False)).block l1 (lt_of_heap hr2) (fun h => h)).trans hr2⟩ (gf := 41) (lb := #[.pointer (some ⟨U2.heap.size, 0, none⟩)]) rfl (enters_of Tryd.func41 (by kernel_rfl) rfl) hrowS (fun _ => rfl) (fun (r : List (Nat × St)) E W => MJ w.heap.size T (r.map Prod.snd ++ flatR rest) E W) MX tJ (MX.ter _) hi3 ?r2 ?d2 ?s2
    case s2 => rintro c' E3 V _ _ h; exact h.elim
    case d2 =>
      rintro E3 V hm4 hg4 hj
      gi_wp2_with fail
      exact ⟨(m3 _).trans' hm4, E3, hg4.mono (m3 (fun _ => False)).size, hin', hj⟩
    case r2 =>
      rintro l2 hl2 ⟨iy, x⟩ rs E3 V hj hm4 hg4 hEl2 ⟨r3, hrec2⟩
      have hlr2 : l2 < V.heap.size := lt_of_heap hrec2
      simp only [encX, St.val]
      gi_wp2
      refine ⟨⟨Mv.alloc _ _ _, Below.heap_alloc _ _ _ hlr2⟩, fun V2 tw => ?_⟩
      obtain ⟨hj2, hm5⟩ := tw.go tJ hj (Mv.alloc _ _ _) hm4 (Nat.le_refl _) (by omega) hEl2
      have x0 : V2.cell? ⟨V.heap.size, 0, none⟩ = some (.string x.s) := tw.mv.cell (show ¬ V.heap.size = l2 by omega) (cell_at rfl rfl)
      have x1 : V2.cell? ⟨V.heap.size, 1, none⟩ = some (.string x.k) := tw.mv.cell (show ¬ V.heap.size = l2 by omega) (cell_at rfl rfl)
      have x2 : V2.cell? ⟨V.heap.size, 2, none⟩ = some (.string x.v) := tw.mv.cell (show ¬ V.heap.size = l2 by omega) (cell_at rfl rfl)
      have x3 : V2.cell? ⟨V.heap.size, 3, none⟩ = some (.int .i64 x.n) := tw.mv.cell (show ¬ V.heap.size = l2 by omega) (cell_at rfl rfl)
      obtain ⟨p, v, ⟨hE3, hfold, hb1, hb2, hzs⟩, hI⟩ := hj2
      simp only [List.map_cons, List.cons_append, List.length_cons] at hb1 hb2
      have hfold2 : Hid (List.foldl stp (stp p x) (rs.map Prod.snd ++ flatR rest) = T) := hfold.out
      have hx := hzs x (by simp)
      have hzs2 : ∀ y ∈ rs.map Prod.snd ++ flatR rest, y.s.size ≤ 1000000000 ∧ y.k.size ≤ 1000000000 := fun y hy => hzs y (by simp only [List.map_cons, List.cons_append, List.mem_cons]; exact .inr hy)
      obtain ⟨kl, hkl⟩ := key_mk x.s x.k (by unfold maxLen; omega) (by unfold maxLen; omega)
      clear tw hj hm4 hrec2 hfold hzs hi2 hi3 hrowS
      obtain ⟨em, out⟩ := p
      simp only at hb1 hb2
      obtain ⟨V3, hV3⟩ : ∃ V3, V2.alloc (.cells #[.string x.s, .string x.k] 71) = V3 := ⟨_, rfl⟩
      have mA : ∀ F : Nat → Prop, Mv F V2 V3 := fun F => by rw [← hV3]; exact Mv.alloc _ _ _
      have hI3 := hI.mv (mA (fun _ => False)) (fun _ _ h => h)
      obtain ⟨D, hD, hDm⟩ := hI3.em
      have hM := hD.isMap
      have z0 := (mA (fun _ => False)).cell (fun h => h) x0
      have z1 := (mA (fun _ => False)).cell (fun h => h) x1
      have z2 := (mA (fun _ => False)).cell (fun h => h) x2
      have z3 := (mA (fun _ => False)).cell (fun h => h) x3
      have y0 : V3.cell? ⟨V2.heap.size, 0, none⟩ = some (.string x.s) := by rw [← hV3]; exact cell_at rfl rfl
      have y1 : V3.cell? ⟨V2.heap.size, 1, none⟩ = some (.string x.k) := by rw [← hV3]; exact cell_at rfl rfl
      have c2 := hI3.cm.c
      have hlo := hI.lo
      by_cases hv : x.v = ⟨#[]⟩
      · have hst : stp (em, out) x = ((x.s, x.k) :: em, out) := by unfold stp; rw [if_pos hv]
        have hve : (x.v.toList == []) = true := by rw [str_nil, hv]; rfl
        rw [hst] at hfold2
        clear hst hv
        obtain ⟨V4, hrun, hown4, hg4⟩ := hD.update (t := 63) (e := 72) lawH Tryd.underlying63 (by unfold maxLen; show em.length < _; omega) hkl unitElem_mk
        have hEm4 : Em V4 (w.heap.size + 1) (em.length + 1) ((x.s, x.k) :: em) := Em.put hown4 hM hkl hDm
        have mg : Mv (fun k => k = w.heap.size + 1) V3 V4 := (Mv.refl _ _).grown hg4 (fun k e => .inl (by cases e; rfl))
        obtain ⟨D2, hD2, hDm2⟩ := hEm4
        have hEm5 : Em V4 (w.heap.size + 1) (em.length + 1) ((x.s, x.k) :: em) := ⟨D2, hD2, hDm2⟩
        obtain ⟨u, ps, hlook, hu⟩ := hD2.look_ok (t := 63) (e := 72) lawH Tryd.underlying63 (zeroU _) unitElem_mk hkl
        obtain ⟨rfl, _⟩ := unitElem_inv hu
        rw [hDm2 _ _ _ hkl, show inE ((x.s, x.k) :: em) x.s x.k = true by simp [inE]] at hlook
        dsimp only [hdV] at hrun hlook
        have n1 : V2.heap.size ≠ w.heap.size + 1 := fun e => by have := hlo (w.heap.size + 1) (.inl (by omega)); omega
        have y0' := mg.cell n1 y0
        have y1' := mg.cell n1 y1
        have c2' := mg.cell (show ¬ w.heap.size + 2 = w.heap.size + 1 by omega) c2
        have hI4 : MI w.heap.size ((x.s, x.k) :: em, out) v V4 := ⟨hI3.re.mv mg (by omega), hEm5, hI3.cm.mv mg (by omega), hI3.cs.mv mg (by omega), own_mv hI3.ow mg (fun g hg e => by have := (hI3.ow.lt g hg).1; omega)⟩
        have mF : Mv E3 V2 V4 := (mA _).trans' (mg.mono (fun k _ e => (hE3 k).2 (.inl (by omega))))
        clear hD hD2 hown4 hg4 hEm5 hDm hDm2 hu mg hI3 hI
        gi_wp2_with (rw [hV3])
        exact ⟨mF.trans' (Mv.alloc _ _ _), E3, Gr.refl _ _, _, v, ⟨hE3, hfold2, by simp only [List.length_cons]; omega, by first | omega | (simp only; omega), hzs2⟩, hI4.mv (E := fun _ => False) (Mv.alloc _ _ _) (fun _ _ h => h)⟩
      · have hve : (x.v.toList == []) = false := by rw [str_nil]; simp [hv]
        obtain ⟨u, ps, hlook, hu⟩ := hD.look_ok (t := 63) (e := 72) lawH Tryd.underlying63 (zeroU _) unitElem_mk hkl
        obtain ⟨rfl, _⟩ := unitElem_inv hu
        rw [hDm _ _ _ hkl] at hlook
        dsimp only [hdV] at hlook
        have hst : stp (em, out) x = if inE em x.s x.k then (em, out) else (em, out ++ [x]) := by unfold stp; rw [if_neg hv]
        rw [hst] at hfold2
        clear hst hv hD hDm hu
        cases hin : inE em x.s x.k
        · rw [hin] at hfold2 hlook
          obtain ⟨V4, hV4⟩ : ∃ V4, V3.alloc (.cells #[] 72) = V4 := ⟨_, rfl⟩
          have mB : ∀ F : Nat → Prop, Mv F V3 V4 := fun F => by rw [← hV4]; exact Mv.alloc _ _ _
          have hI4 := hI3.mv (mB (fun _ => False)) (fun _ _ h => h)
          have q0 := (mB (fun _ => False)).cell (fun h => h) z0
          have q1 := (mB (fun _ => False)).cell (fun h => h) z1
          have q2 := (mB (fun _ => False)).cell (fun h => h) z2
          have q3 := (mB (fun _ => False)).cell (fun h => h) z3
          have c3 := hI4.cs.c
          have hr1 : (V4.alloc (.cells #[.string x.s, .string x.k, .string x.v, .int .i64 x.n] 44)).ownsRow (w.heap.size + 4) 44 4 v out.length (stsC out) := hI4.ow.alloc _
          have hoL : out.length + 1 ≤ 1000000000 := by omega
          have h4s := hI4.cs.lt
          gi_wp2_with (first | rw [hV3] | rw [hV4] | (gi_at_builtin; refine wpListIn_append_own_at _ rfl _ _ 23 rfl (w.heap.size + 4) 44 i0 (.agg #[.string ⟨#[]⟩, .string ⟨#[]⟩, .string ⟨#[]⟩, .int .i64 0]) 4 56 Tryd.underlying23 hinf hz0 hz1 hz2 rfl (by decide) _ _ _ rfl hr1 ⟨V4.heap.size, 0, none⟩ 1 1 [.string x.s, .string x.k, .string x.v, .int .i64 x.n] rfl rfl (four_new V4 _ _ _ _ _) (fun x hx => by simp at hx; rcases hx with rfl | rfl | rfl | rfl <;> rfl) (by unfold maxLen; omega) (by omega) (by simp; omega) ?_))
          intro v' w4 hown' hgrow _ hat
          obtain ⟨f3, hfin, hmf, hterr⟩ := hI.more (x := x) (((mA _).trans' (mB _)).trans' (Mv.alloc _ _ _)) hgrow hown' (by simpa using hat)
          obtain ⟨gg, cap', rfl⟩ := ownsRow_succ hown'
          have g3 := f3.c
          have g4 := f3.f
          gi_wp2_with fail
          refine ⟨hmf.mono (fun k _ e => (hE3 k).2 e), _, fun k hk => (hterr k hk).imp (fun h => (hE3 k).2 h) id, (em, out ++ [x]), _, ⟨fun _ => Iff.rfl, hfold2, by show em.length + _ ≤ _; omega, by show (out ++ [x]).length + _ ≤ _; rw [List.length_append, List.length_singleton]; omega, hzs2⟩, hfin⟩
        · rw [hin] at hfold2 hlook
          gi_wp2_with (rw [hV3])
          exact ⟨(mA _).trans' (Mv.alloc _ _ _), E3, Gr.refl _ _, (em, out), v, ⟨hE3, hfold2, by show em.length + _ ≤ _; omega, by show out.length + _ ≤ _; omega, hzs2⟩, hI3.mv (E := fun _ => False) (Mv.alloc _ _ _) (fun _ _ h => h)⟩
  case done =>
    rintro D E2 U hD hK hnD hm hgr ⟨_, p, v, ⟨hE2, hfold, hb1, hb2, _⟩, hI⟩
    obtain rfl : p = T := hfold.out
    have c3 := hI.cs.c
    have hbU : Below w.heap.size w U := (((m0 (fun _ => False)).trans' (m1 _)).toBelow (Nat.le_refl _) (fun _ _ h => h)).trans (hm.toBelow (by omega) (fun k hk h => nE k (.inl hk) h))
    have hsl : ∃ ao n' cap, v = .slice ao n' cap := by
      rcases hI.ow.2 with ⟨hv, _⟩ | ⟨g, cap, cur, hv, _⟩
      · exact ⟨_, _, _, hv⟩
      · exact ⟨_, _, _, hv⟩
    have hv4 : ∀ k, v.ownBlock = some k → w.heap.size + 4 ≤ k := fun k e => (hI.ow.lt k e).1
    have hnvD : ¬ v.ownBlock = some D := fun e => hnD ((hE2 D).2 (.inr e))
    have hrev := reverse_any (w.heap.size + 4) v p.2 U hI.ow (by simp only [flatR, List.flatMap_nil, List.length_nil] at hb2; omega)
    obtain ⟨ao, n', cap, rfl⟩ := hsl
    gi_wp2_with fail
    refine ⟨trivial, (callsIn_wide.2 hrev).mono ?_⟩
    rintro e U2 ⟨rfl, how2, mr⟩
    have re2 := hI.re.mv mr (fun e => by have := hv4 _ e; omega)
    have cs2 := hI.cs.mv mr (fun e => by have := hv4 _ e; omega)
    have hK2 : U2.heap[D]? = some (.deferred (some [])) := (mr.block D (lt_of_heap hK) hnvD).trans hK
    have r0 := re2.c
    have r1 := re2.f
    have s0 := cs2.c
    obtain ⟨U3, hU3⟩ : ∃ U3, U2.setCell ⟨w.heap.size, 0, none⟩ (.slice ao n' cap) = U3 := ⟨_, rfl⟩
    have ms : Mv (fun k => k = w.heap.size) U2 U3 := by rw [← hU3]; exact Mv.set1 (E := fun k => k = w.heap.size) rfl _
    have re3 : Cl w.heap.size (.slice ao n' cap) U3 := by rw [← hU3]; exact re2.set _
    have hK3 : U3.heap[D]? = some (.deferred (some [])) := (ms.block D (lt_of_heap hK2) (fun e => by omega)).trans hK2
    have how3 := own_mv how2 ms (fun g hg e => by have := hv4 g hg; omega)
    gi_wp2_with (rw [hU3])
    refine ⟨by simp, .inl ⟨_, _, rfl, run_takeDeferred hK3, ?_⟩⟩
    have mP : Mv (fun k => k = D) U3 (U3.putObj D (.deferred none)) := Mv.put (E := fun k => k = D) rfl _
    have z0 := (re3.mv mP (by omega)).c
    have h4 := own_mv how3 mP (fun g hg e => hnvD (e ▸ hg))
    refine ⟨.agg #[.slice ao n' cap], by simp [results, Tryd.results12, go_sem, z0], _, rfl, own_base h4 (by omega), ?_⟩
    refine ((hbU.trans (mr.toBelow hbU.size (fun k hk e => by have := hv4 k e; omega))).trans (ms.toBelow (by have := hbU.size; have := mr.size; omega) (fun k hk e => by omega))).trans (mP.toBelow (by have := hbU.size; have := mr.size; have := ms.size; omega) (fun k hk e => by omega))
  case stop => rintro D c' E2 U _ _ _ _ _ h; exact h.elim
end Go.Proofs.YtiinhfbfciccnaaDoor
