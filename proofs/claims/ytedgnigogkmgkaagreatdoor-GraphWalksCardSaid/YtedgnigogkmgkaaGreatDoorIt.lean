/- Iterators of functions, by territories: what a row's taker may turn, what is left as it lay; the law of a loop over such a row. -/
import Derived.RangeFuncNested
import Derived.RangeFuncBound
import Derived.RangeFuncCalls
import Derived.RangeFuncLeaves
import Derived.RangeFuncFrom
import Derived.Shelf.Abstract
import Derived.Shelf.RegionOpen
import Derived.OwnWalkIn
import Derived.TacticsInMore
import Derived.LoopNIn
import Derived.LoopIn
namespace Go.Proofs.YtedgnigogkmgkaaGreatDoor
open Go.RowKit Go.Shelf
/-- From W to V nothing turns but blocks of E and new ones. -/
structure Mv (E : Nat → Prop) (W V : World) : Prop where
  os : V.os = W.os
  tape : V.tape = W.tape
  output : V.output = W.output
  size : W.heap.size ≤ V.heap.size
  block : ∀ k, k < W.heap.size → ¬ E k → V.heap[k]? = W.heap[k]?
/-- E' is E and what is new behind W. -/
def Gr (E : Nat → Prop) (W : World) (E' : Nat → Prop) : Prop := ∀ k, E' k → E k ∨ W.heap.size ≤ k
theorem Gr.refl (E : Nat → Prop) (W : World) : Gr E W E := fun _ h => .inl h
theorem Mv.refl (E : Nat → Prop) (W : World) : Mv E W W := ⟨rfl, rfl, rfl, Nat.le_refl _, fun _ _ _ => rfl⟩
theorem Mv.trans {E E' : Nat → Prop} {A B C : World} (h : Mv E A B) (g : Gr E A E') (k : Mv E' B C) : Mv E A C :=
  ⟨k.os.trans h.os, k.tape.trans h.tape, k.output.trans h.output, Nat.le_trans h.size k.size, fun b hb he =>
    (k.block b (Nat.lt_of_lt_of_le hb h.size) (fun e' => by rcases g b e' with e | e; exact he e; omega)).trans (h.block b hb he)⟩
theorem Mv.trans' {E : Nat → Prop} {A B C : World} (h : Mv E A B) (k : Mv E B C) : Mv E A C := h.trans (Gr.refl _ _) k
theorem Mv.mono {E E' : Nat → Prop} {A B : World} (h : Mv E A B) (g : ∀ k, k < A.heap.size → E k → E' k) : Mv E' A B := ⟨h.os, h.tape, h.output, h.size, fun b hb he => h.block b hb (fun e => he (g b hb e))⟩
theorem Mv.below {E : Nat → Prop} {A B : World} (h : Below A.heap.size A B) : Mv E A B := ⟨h.os, h.tape, h.output, h.size, fun b hb _ => h.block b hb⟩
theorem Mv.toBelow {E : Nat → Prop} {A B : World} {n : Nat} (h : Mv E A B) (hn : n ≤ A.heap.size) (he : ∀ k, k < n → ¬ E k) : Below n A B := ⟨h.os, h.tape, h.output, h.size, fun b hb => h.block b (Nat.lt_of_lt_of_le hb hn) (he b hb)⟩
theorem Mv.alloc (E : Nat → Prop) (W : World) (o : Obj) : Mv E W (W.alloc o) := .below ((Below.refl _ W).alloc (Nat.le_refl _) _)
theorem Mv.drew (E : Nat → Prop) (W : World) : Mv E W W.drew := .below (Below.refl _ W).drew
theorem Mv.put {E : Nat → Prop} {W : World} {l : Nat} (h : E l) (o : Obj) : Mv E W (W.putObj l o) := ⟨rfl, rfl, rfl, by simp, fun b _ he => World.putObj_heap_other (fun e => he (e ▸ h))⟩
theorem Gr.trans {E E' E'' : Nat → Prop} {A B : World} (h : Gr E A E') (hs : A.heap.size ≤ B.heap.size) (k : Gr E' B E'') : Gr E A E'' := fun b hb => by
  rcases k b hb with e | e
  · exact h b e
  · exact .inr (Nat.le_trans hs e)
theorem Gr.mono {E E' : Nat → Prop} {A B : World} (hs : A.heap.size ≤ B.heap.size) (k : Gr E B E') : Gr E A E' := fun b hb => by
  rcases k b hb with e | e
  · exact .inl e
  · exact .inr (Nat.le_trans hs e)
theorem Mv.put_new {E : Nat → Prop} {A W : World} {l : Nat} (h : Mv E A W) (hl : A.heap.size ≤ l) (o : Obj) : Mv E A (W.putObj l o) :=
  ⟨h.os, h.tape, h.output, by simpa using h.size, fun b hb he => (World.putObj_heap_other (by omega)).trans (h.block b hb he)⟩
/-- What is said hangs on the blocks of its territory and on those below B alone; its territory lies in the heap. -/
structure Ter {β : Type} (B : Nat) (J : β → (Nat → Prop) → World → Prop) : Prop where
  keep : ∀ s E W V, J s E W → Mv (fun k => ¬ E k ∧ B ≤ k) W V → J s E V
  low : ∀ s E W, J s E W → ∀ k, E k → k < W.heap.size
theorem Mv.out {E F : Nat → Prop} {W V : World} (m : Mv E W V) (h : ∀ k, k < W.heap.size → E k → F k) : Mv F W V := m.mono h
theorem Mv.put_at {E : Nat → Prop} {W : World} {l : Nat} (h : E l) (o : Obj) : Mv E W (W.putObj l o) := .put h o
/-- The taker of a row: it takes x, and goes on or not. -/
def Yi (P : Program) {α : Type} (l : Nat) (enc : α → Array Value) (J : List α → (Nat → Prop) → World → Prop) (Jx : Unit → (Nat → Prop) → World → Prop) : Prop :=
  ∀ x rest E W, J (x :: rest) E W → YieldAt Fence.wide 3 P l (enc x) W fun e V => Mv E W V ∧
    ((e = .returned (.bool true) ∧ ∃ E', Gr E W E' ∧ J rest E' V) ∨ (e = .returned (.bool false) ∧ ∃ E', Gr E W E' ∧ Jx () E' V))
/-- What comes of going through a row. -/
def Went {α : Type} (J : List α → (Nat → Prop) → World → Prop) (Jx : Unit → (Nat → Prop) → World → Prop) (E : Nat → Prop) (W : World) (e : Ending) (V : World) : Prop :=
  (∃ v, e = .returned v) ∧ Mv E W V ∧ ((∃ E', Gr E W E' ∧ J [] E' V) ∨ (∃ E', Gr E W E' ∧ Jx () E' V))
/-- Function g with what it has captured is the row xs, for all takers that turn nothing but E and what is new behind W. -/
def Row (P : Program) {α : Type} (g : Nat) (lb : Array Value) (enc : α → Array Value) (xs : List α) (E : Nat → Prop) (W : World) : Prop :=
  ∀ (l : Nat) (J : List α → (Nat → Prop) → World → Prop) (Jx : Unit → (Nat → Prop) → World → Prop) (E1 : Nat → Prop) (V : World),
    Mv E W V → Gr E W E1 → Ter V.heap.size J → Ter V.heap.size Jx → Yi P l enc J Jx → J xs E1 V →
    Calls P g (#[.func (.yield l) #[] #[]] ++ lb) V (Went J Jx E1 V)
theorem Row.later {P : Program} {α : Type} {g : Nat} {lb : Array Value} {enc : α → Array Value} {xs : List α} {E E1 : Nat → Prop} {W V : World}
    (h : Row P g lb enc xs E W) (m : Mv E W V) (gr : Gr E W E1) : Row P g lb enc xs E1 V :=
  fun l J Jx E2 V2 m2 g2 => h l J Jx E2 V2 (m.trans gr m2) (gr.trans m.size g2)
theorem wide_round {l n m : Nat} {P : Program} {l' f : Nat} {tmps : Array Value} {assign body : Code} {w : World} {R : Ending → World → Prop}
    (h : RoundIn (Fence.wide) n P l' f tmps assign body w R) : RoundIn (Fence.wide.inRound l) m P l' f tmps assign body w R :=
  ⟨trivial, fun c cs _ => h.2 c cs (fun d hd => by cases hd)⟩
theorem wide_round' {n m : Nat} {P : Program} {l' f : Nat} {tmps : Array Value} {assign body : Code} {w : World} {R : Ending → World → Prop}
    (h : RoundIn (Fence.wide) n P l' f tmps assign body w R) : RoundIn (Fence.wide) m P l' f tmps assign body w R :=
  ⟨trivial, fun c cs _ => h.2 c cs (fun d hd => by cases hd)⟩
/-- W1 and W2 part at most in the loop's record. -/
structure Twin (l : Nat) (A B : World) : Prop where
  os : B.os = A.os
  tape : B.tape = A.tape
  output : B.output = A.output
  size : B.heap.size = A.heap.size
  block : ∀ k, k ≠ l → B.heap[k]? = A.heap[k]?
  here : ∃ r, B.heap[l]? = some (.loop r)
/-- How a round's body may be left. -/
def roundX {α : Type} (I : List α → (Nat → Prop) → World → Prop) (Ix : Code → (Nat → Prop) → World → Prop) (rest : List α) (E : Nat → Prop) (W : World) : Exit → Act → World → Prop
  | .normal, _, V => Mv E W V ∧ ∃ E', Gr E W E' ∧ I rest E' V
  | .ret, _, V => Mv E W V ∧ ∃ E', Gr E W E' ∧ Ix .ret E' V
  | .exit id, _, V => Mv E W V ∧ ∃ E', Gr E W E' ∧ Ix (.exit id) E' V
  | .goto t, _, V => Mv E W V ∧ ∃ E', Gr E W E' ∧ Ix (.goto t) E' V
  | .panic _, _, _ => False
  | .outgrown, _, _ => False
/-- What one round asks of its code. -/
def RoundOk (P : Program) {α : Type} (ps : Array Tmp) (assign body : Code) (enc : α → Array Value) (I : List α → (Nat → Prop) → World → Prop) (Ix : Code → (Nat → Prop) → World → Prop) (tmps : Array Value) (E0 : Nat → Prop) (w : World) (l : Nat) : Prop :=
  ∀ x rest E W, I (x :: rest) E W → Mv E0 w W → Gr E0 w E → ¬ E l → (∃ r, W.heap[l]? = some (.loop r)) →
    assign.wpIn (Fence.wide.inRound l) 3 P (Exit.then (fun a₁ W1 => (Mv E W W1 ∧ W1.heap[l]? = W.heap[l]?) ∧ ∀ W2, Twin l W1 W2 → body.wpIn (Fence.wide.inRound l) 3 P (roundX I Ix rest E W2) a₁ W2) (fun _ _ _ => False))
      { tmps := (ps.zip (enc x)).foldl (fun t (p, v) => t.setIfInBounds p v) tmps, defers := [] } W
theorem yi_of_round {P : Program} {α : Type} {ps : Array Tmp} {assign body : Code} {enc : α → Array Value} {I : List α → (Nat → Prop) → World → Prop} {Ix : Code → (Nat → Prop) → World → Prop} {tmps : Array Value} {l fn D : Nat}
    {B : Nat} {E00 : Nat → Prop} {w : World} (hl0 : w.heap.size ≤ l) (hBl : B ≤ l) (hI : Ter B I) (hIx : Ter B Ix) (hps : ∀ x, (enc x).size = ps.size) (hr : RoundOk P ps assign body enc I Ix tmps E00 w l) :
    Yi P l enc
      (fun rest E1 W => ∃ E, (∀ k, E1 k ↔ (E k ∨ k = l)) ∧ ¬ E l ∧ (I rest E W ∧ Mv E00 w W ∧ Gr E00 w E) ∧ W.heap[l]? = some (.loop { state := .ready, pending := none, fn := fn, tmps := tmps, params := ps, assign := assign, body := body, defers := D }))
      (fun _ E1 W => ∃ E c, (∀ k, E1 k ↔ (E k ∨ k = l)) ∧ ¬ E l ∧ (Ix c E W ∧ Mv E00 w W ∧ Gr E00 w E) ∧ W.heap[l]? = some (.loop { state := .done, pending := some c, fn := fn, tmps := tmps, params := ps, assign := assign, body := body, defers := D })) := by
  rintro x rest E1 W ⟨E, hE, hEl, ⟨hi, hmw, hgw⟩, hl⟩
  obtain ⟨rec, hrec⟩ : ∃ rec : LoopState → Option Code → Loop, rec = fun st pe => { state := st, pending := pe, fn := fn, tmps := tmps, params := ps, assign := assign, body := body, defers := D } := ⟨_, rfl⟩
  have hlr : W.heap[l]? = some (.loop (rec .ready none)) := by rw [hrec]; exact hl
  have hy := run_yield (P := P) (args := enc x) hl (hps x)
  refine ⟨fn, _, assign, body, hy, roundIn_of_wpIn trivial ?_⟩
  refine wpIn_mono (hr x rest E W hi hmw hgw hEl ⟨_, hl⟩) ?_
  intro e a1 W1 he
  cases e with
  | normal =>
    obtain ⟨⟨m1, hk1⟩, hb⟩ := he
    have hl1 := hk1.trans hlr
    have hlt : l < W1.heap.size := (Array.getElem?_eq_some_iff.1 hl1).1
    have hltW : l < W.heap.size := (Array.getElem?_eq_some_iff.1 hl).1
    refine ⟨_, run_beginRound hl1 (by rw [hrec]), ?_⟩
    have hl2 : (W1.putObj l (.loop { rec .ready none with state := .busy })).heap[l]? = some (.loop { rec .ready none with state := .busy }) := World.putObj_heap_same hlt
    have tw : Twin l W1 (W1.putObj l (.loop { rec .ready none with state := .busy })) := ⟨rfl, rfl, rfl, by simp, fun k hk => World.putObj_heap_other hk, ⟨_, hl2⟩⟩
    have m1' : Mv E1 W W1 := m1.mono (fun k _ h => (hE k).2 (.inl h))
    have m2 : Mv E1 W (W1.putObj l (.loop { rec .ready none with state := .busy })) := m1'.trans' (.put ((hE l).2 (.inr rfl)) _)
    refine wpIn_mono (hb _ tw) ?_
    revert hl2 m2
    generalize hW2 : W1.putObj l (.loop { rec .ready none with state := .busy }) = W2
    intro hl2 m2
    have hmw2 : Mv E00 w W2 := by rw [← hW2]; exact (hmw.trans hgw m1).put_new hl0 _
    have fin : ∀ (jump : Option Code) (W3 : World), Mv E W2 W3 → (Instr.endRound l jump).run P W3 = .ok (.bool jump.isNone) (W3.putObj l (.loop (rec (if jump.isNone then .ready else .done) jump))) ∧
        (W3.putObj l (.loop (rec (if jump.isNone then .ready else .done) jump))).heap[l]? = some (.loop (rec (if jump.isNone then .ready else .done) jump)) ∧ Mv E1 W (W3.putObj l (.loop (rec (if jump.isNone then .ready else .done) jump))) ∧ Mv E00 w (W3.putObj l (.loop (rec (if jump.isNone then .ready else .done) jump))) := by
      intro jump W3 m3
      have hl3 := (m3.block l (Array.getElem?_eq_some_iff.1 hl2).1 hEl).trans hl2
      have := run_endRound (P := P) jump hl3
      rw [hrec] at this ⊢
      exact ⟨this, World.putObj_heap_same (Array.getElem?_eq_some_iff.1 hl3).1, (m2.trans' (m3.mono (fun k _ h => (hE k).2 (.inl h)))).trans' (.put ((hE l).2 (.inr rfl)) _), ((hmw2.trans hgw m3).put_new hl0 _)⟩
    have grow : ∀ (E' : Nat → Prop) (V : World), Gr E W2 E' → Gr E1 W (fun k => (E' k ∧ k ≠ l) ∨ k = l) := by
      intro E' V g k hk
      rcases hk with ⟨hk, hne⟩ | rfl
      · rcases g k hk with h | h
        · exact .inl ((hE k).2 (.inl h))
        · exact .inr (Nat.le_trans m2.size h)
      · exact .inl ((hE k).2 (.inr rfl))
    have nel : ∀ (E' : Nat → Prop), Gr E W2 E' → ∀ k, E' k → k ≠ l := by
      intro E' g k hk e
      subst e
      rcases g k hk with h | h
      · exact hEl h
      · have := (Array.getElem?_eq_some_iff.1 hl2).1; omega
    have ggw : ∀ (E' : Nat → Prop), Gr E W2 E' → Gr E00 w E' := fun E' g => hgw.trans (Nat.le_trans hmw.size (by rw [← hW2]; simpa using m1.size)) g
    intro e3 a3 W3 hp
    cases e3 with
    | normal =>
      obtain ⟨m3, E', g3, hi3⟩ := hp
      obtain ⟨r3, hl4, m4, m5⟩ := fin none W3 m3
      refine ⟨_, _, r3, m4, .inl ⟨rfl, _, grow E' W3 g3, E', fun k => ?_, fun h => nel E' g3 l h rfl, ⟨hI.keep _ _ _ _ hi3 (.put ⟨fun h => nel E' g3 l h rfl, hBl⟩ _), m5, ggw E' g3⟩, by rw [hl4, hrec]; rfl⟩⟩
      exact ⟨fun h => h.imp And.left id, fun h => h.imp (fun h => ⟨h, nel E' g3 k h⟩) id⟩
    | ret =>
      obtain ⟨m3, E', g3, hi3⟩ := hp
      obtain ⟨r3, hl4, m4, m5⟩ := fin (some .ret) W3 m3
      refine ⟨_, _, r3, m4, .inr ⟨rfl, _, grow E' W3 g3, E', _, fun k => ?_, fun h => nel E' g3 l h rfl, ⟨hIx.keep _ _ _ _ hi3 (.put ⟨fun h => nel E' g3 l h rfl, hBl⟩ _), m5, ggw E' g3⟩, by rw [hl4, hrec]; rfl⟩⟩
      exact ⟨fun h => h.imp And.left id, fun h => h.imp (fun h => ⟨h, nel E' g3 k h⟩) id⟩
    | exit id' =>
      obtain ⟨m3, E', g3, hi3⟩ := hp
      obtain ⟨r3, hl4, m4, m5⟩ := fin (some (.exit id')) W3 m3
      refine ⟨_, _, r3, m4, .inr ⟨rfl, _, grow E' W3 g3, E', _, fun k => ?_, fun h => nel E' g3 l h rfl, ⟨hIx.keep _ _ _ _ hi3 (.put ⟨fun h => nel E' g3 l h rfl, hBl⟩ _), m5, ggw E' g3⟩, by rw [hl4, hrec]; rfl⟩⟩
      exact ⟨fun h => h.imp And.left id, fun h => h.imp (fun h => ⟨h, nel E' g3 k h⟩) id⟩
    | goto t =>
      obtain ⟨m3, E', g3, hi3⟩ := hp
      obtain ⟨r3, hl4, m4, m5⟩ := fin (some (.goto t)) W3 m3
      refine ⟨_, _, r3, m4, .inr ⟨rfl, _, grow E' W3 g3, E', _, fun k => ?_, fun h => nel E' g3 l h rfl, ⟨hIx.keep _ _ _ _ hi3 (.put ⟨fun h => nel E' g3 l h rfl, hBl⟩ _), m5, ggw E' g3⟩, by rw [hl4, hrec]; rfl⟩⟩
      exact ⟨fun h => h.imp And.left id, fun h => h.imp (fun h => ⟨h, nel E' g3 k h⟩) id⟩
    | panic ch => exact hp.elim
    | outgrown => exact hp.elim
  | ret => exact he.elim
  | exit _ => exact he.elim
  | goto _ => exact he.elim
  | panic _ => exact he.elim
  | outgrown => exact he.elim
/-- A loop over a row, outside of all rounds. -/
theorem loop_out {P : Program} {α : Type} {n : Nat} {g : Operand} {ps : Array Tmp} {assign body : Code} {Q : Exit → Act → World → Prop} {a : Act} {w : World} {gf : Nat} {lb : Array Value}
    (hg : a.eval g = .func (.func gf) #[] lb) (eg : ∀ args w, (callFunc gf args).run P w = .ok (.enter gf args) w) {enc : α → Array Value} {xs : List α} {E : Nat → Prop}
    (hrow : Row P gf lb enc xs E w) (hps : ∀ x, (enc x).size = ps.size) (I : List α → (Nat → Prop) → World → Prop) (Ix : Code → (Nat → Prop) → World → Prop) (hI : Ter w.heap.size I) (hIx : Ter w.heap.size Ix) (h0 : I xs E w)
    (hround : ∀ l, w.heap.size ≤ l → RoundOk P ps assign body enc I Ix a.tmps E w l)
    (hdone : ∀ D E' W, w.heap.size ≤ D → W.heap[D]? = some (.deferred (some [])) → ¬ E' D → Mv E w W → Gr E w E' → I [] E' W → Q .normal { a with defers := { target := .collected D, args := #[] } :: a.defers } W)
    (hstop : ∀ D c E' W, w.heap.size ≤ D → W.heap[D]? = some (.deferred (some [])) → ¬ E' D → Mv E w W → Gr E w E' → Ix c E' W → c.wpIn Fence.wide n P Q { a with defers := { target := .collected D, args := #[] } :: a.defers } W) :
    (Code.rangeFunc g ps assign body).wpIn Fence.wide n P Q a w := by
  refine wpIn_rangeFunc ?_
  intro fn _
  have hlow := hI.low _ _ _ h0
  obtain ⟨W1, hW1⟩ : ∃ W1, (w.alloc (.deferred (some []))).alloc (.loop { state := .ready, pending := none, fn := fn, tmps := a.tmps, params := ps, assign := assign, body := body, defers := w.heap.size }) = W1 := ⟨_, rfl⟩
  have hL1 : W1.heap[w.heap.size + 1]? = some (.loop { state := .ready, pending := none, fn := fn, tmps := a.tmps, params := ps, assign := assign, body := body, defers := w.heap.size }) := by
    rw [← hW1]; have := World.alloc_heap_new (w.alloc (.deferred (some []))) (.loop { state := .ready, pending := none, fn := fn, tmps := a.tmps, params := ps, assign := assign, body := body, defers := w.heap.size }); rwa [World.size_alloc] at this
  have hK1 : W1.heap[w.heap.size]? = some (.deferred (some [])) := by
    rw [← hW1]; exact (Below.heap_alloc _ _ _ (by simp)).trans (World.alloc_heap_new w _)
  have hs1 : W1.heap.size = w.heap.size + 2 := by rw [← hW1]; simp
  have m1 : Mv E w W1 := by rw [← hW1]; exact (Mv.alloc _ _ _).trans' (Mv.alloc _ _ _)
  have g1 : Gr E w (fun k => E k ∨ k = w.heap.size + 1) := fun k hk => hk.imp id (fun e => by omega)
  refine ⟨w.heap.size + 1, [{ target := .collected w.heap.size, args := #[] }], W1, { target := .fn (.func gf) lb, args := #[.func (.yield (w.heap.size + 1)) #[] #[]] }, W1, gf, #[.func (.yield (w.heap.size + 1)) #[] #[]] ++ lb, W1, ?_, ?_, fun _ _ => trivial, ?_, fun h => (by cases h), callsIn_wide.2 ?_⟩
  · rw [← hW1]; exact run_enterLoop_outer _ _ _ _ _
  · simp only [resolve, hg]
    simp [go_sem]
  · simp [invoke, go_sem, eg]
  · refine (hrow (w.heap.size + 1) _ _ (fun k => E k ∨ k = w.heap.size + 1) W1 m1 g1 ?_ ?_ (yi_of_round (fn := fn) (D := w.heap.size) (by omega) (by omega) hI hIx hps (hround _ (by omega))) ?_).mono ?_
    · refine ⟨fun s E1 W V h m => ?_, fun s E1 W h k hk => ?_⟩
      · obtain ⟨E0, hE, hEl, ⟨hi, hmw, hgw⟩, hl⟩ := h
        refine ⟨E0, hE, hEl, ⟨hI.keep _ _ _ _ hi (m.out (fun k _ h => ⟨fun e => h.1 ((hE k).2 (.inl e)), by omega⟩)), ?_, hgw⟩, ?_⟩
        · exact ⟨m.os.trans hmw.os, m.tape.trans hmw.tape, m.output.trans hmw.output, Nat.le_trans hmw.size m.size, fun k hk he => (m.block k (Nat.lt_of_lt_of_le hk hmw.size) (fun h => by omega)).trans (hmw.block k hk he)⟩
        · exact (m.block _ (Array.getElem?_eq_some_iff.1 hl).1 (fun h => h.1 ((hE _).2 (.inr rfl)))).trans hl
      · obtain ⟨E0, hE, hEl, ⟨hi, hmw, hgw⟩, hl⟩ := h
        rcases (hE k).1 hk with h | rfl
        · exact hI.low _ _ _ hi k h
        · exact (Array.getElem?_eq_some_iff.1 hl).1
    · refine ⟨fun s E1 W V h m => ?_, fun s E1 W h k hk => ?_⟩
      · obtain ⟨E0, c, hE, hEl, ⟨hi, hmw, hgw⟩, hl⟩ := h
        refine ⟨E0, c, hE, hEl, ⟨hIx.keep _ _ _ _ hi (m.out (fun k _ h => ⟨fun e => h.1 ((hE k).2 (.inl e)), by omega⟩)), ?_, hgw⟩, ?_⟩
        · exact ⟨m.os.trans hmw.os, m.tape.trans hmw.tape, m.output.trans hmw.output, Nat.le_trans hmw.size m.size, fun k hk he => (m.block k (Nat.lt_of_lt_of_le hk hmw.size) (fun h => by omega)).trans (hmw.block k hk he)⟩
        · exact (m.block _ (Array.getElem?_eq_some_iff.1 hl).1 (fun h => h.1 ((hE _).2 (.inr rfl)))).trans hl
      · obtain ⟨E0, c, hE, hEl, ⟨hi, hmw, hgw⟩, hl⟩ := h
        rcases (hE k).1 hk with h | rfl
        · exact hIx.low _ _ _ hi k h
        · exact (Array.getElem?_eq_some_iff.1 hl).1
    · exact ⟨E, fun k => Iff.rfl, fun h => by have := hlow _ h; omega, ⟨hI.keep _ _ _ _ h0 (by rw [← hW1]; exact (Mv.alloc _ _ _).trans' (Mv.alloc _ _ _)), m1, Gr.refl _ _⟩, hL1⟩
    · rintro e W2 ⟨⟨v, rfl⟩, m2, (⟨E1, g2, E0, hE, hEl, ⟨hi, mW, gW⟩, hl⟩ | ⟨E1, g2, E0, c, hE, hEl, ⟨hi, mW, gW⟩, hl⟩)⟩
      all_goals
        have hKD : W2.heap[w.heap.size]? = some (.deferred (some [])) := (m2.block _ (by omega) (fun h => by rcases h with h | h; exact absurd (hlow _ h) (by omega); omega)).trans hK1
        have nD : ¬ E0 w.heap.size := fun h => by
          rcases g2 _ ((hE _).2 (.inl h)) with (h | h) | h
          · exact absurd (hlow _ h) (by omega)
          · omega
          · omega
      · refine ⟨none, _, run_endLoop hl (by simp), ?_⟩
        exact hdone w.heap.size E0 _ (Nat.le_refl _) ((World.putObj_heap_other (by omega)).trans hKD) nD (mW.put_new (by omega) _) gW (hI.keep _ _ _ _ hi (.put ⟨hEl, by omega⟩ _))
      · refine ⟨some c, _, run_endLoop hl (by simp), ?_⟩
        exact hstop w.heap.size c E0 _ (Nat.le_refl _) ((World.putObj_heap_other (by omega)).trans hKD) nD (mW.put_new (by omega) _) gW (hIx.keep _ _ _ _ hi (.put ⟨hEl, by omega⟩ _))
/-- A loop over a row, in a round of another one. -/
theorem loop_in {P : Program} {α : Type} {n l₀ : Nat} {g : Operand} {ps : Array Tmp} {assign body : Code} {Q : Exit → Act → World → Prop} {a : Act} {w : World} {gf : Nat} {lb : Array Value}
    (hl₀ : ∃ r₀, w.heap[l₀]? = some (.loop r₀)) (hg : a.eval g = .func (.func gf) #[] lb) (eg : ∀ args w, (callFunc gf args).run P w = .ok (.enter gf args) w) {enc : α → Array Value} {xs : List α} {E : Nat → Prop}
    (hrow : Row P gf lb enc xs E w) (hps : ∀ x, (enc x).size = ps.size) (I : List α → (Nat → Prop) → World → Prop) (Ix : Code → (Nat → Prop) → World → Prop) (hI : Ter w.heap.size I) (hIx : Ter w.heap.size Ix) (h0 : I xs E w)
    (hround : ∀ l, w.heap.size ≤ l → RoundOk P ps assign body enc I Ix a.tmps E w l)
    (hdone : ∀ E' W, Mv E w W → Gr E w E' → I [] E' W → Q .normal a W)
    (hstop : ∀ c E' W, Mv E w W → Gr E w E' → Ix c E' W → c.wpIn (Fence.wide.inRound l₀) n P Q a W) :
    (Code.rangeFunc g ps assign body).wpIn (Fence.wide.inRound l₀) n P Q a w := by
  refine wpIn_rangeFunc ?_
  intro fn _
  obtain ⟨r₀, hl₀⟩ := hl₀
  have hlow := hI.low _ _ _ h0
  obtain ⟨W1, hW1⟩ : ∃ W1, w.alloc (.loop { state := .ready, pending := none, fn := fn, tmps := a.tmps, params := ps, assign := assign, body := body, defers := r₀.defers }) = W1 := ⟨_, rfl⟩
  have hL1 : W1.heap[w.heap.size]? = some (.loop { state := .ready, pending := none, fn := fn, tmps := a.tmps, params := ps, assign := assign, body := body, defers := r₀.defers }) := by
    rw [← hW1]; exact World.alloc_heap_new w _
  have hs1 : W1.heap.size = w.heap.size + 1 := by rw [← hW1]; simp
  have m1 : Mv E w W1 := by rw [← hW1]; exact Mv.alloc _ _ _
  have g1 : Gr E w (fun k => E k ∨ k = w.heap.size) := fun k hk => hk.imp id (fun e => by omega)
  refine ⟨w.heap.size, [], W1, { target := .fn (.func gf) lb, args := #[.func (.yield w.heap.size) #[] #[]] }, W1, gf, #[.func (.yield w.heap.size) #[] #[]] ++ lb, W1, ?_, ?_, fun _ _ => trivial, ?_, fun h => (by cases h), CallsIn.inRound l₀ (callsIn_wide.2 ?_)⟩
  · rw [← hW1]; exact run_enterLoop_inner hl₀ _ _ _ _ _
  · simp only [resolve, hg]
    simp [go_sem]
  · simp [invoke, go_sem, eg]
  · refine (hrow w.heap.size _ _ (fun k => E k ∨ k = w.heap.size) W1 m1 g1 ?_ ?_ (yi_of_round (fn := fn) (D := r₀.defers) (by omega) (by omega) hI hIx hps (hround _ (by omega))) ?_).mono ?_
    · refine ⟨fun s E1 W V h m => ?_, fun s E1 W h k hk => ?_⟩
      · obtain ⟨E0, hE, hEl, ⟨hi, hmw, hgw⟩, hl⟩ := h
        refine ⟨E0, hE, hEl, ⟨hI.keep _ _ _ _ hi (m.out (fun k _ h => ⟨fun e => h.1 ((hE k).2 (.inl e)), by omega⟩)), ?_, hgw⟩, ?_⟩
        · exact ⟨m.os.trans hmw.os, m.tape.trans hmw.tape, m.output.trans hmw.output, Nat.le_trans hmw.size m.size, fun k hk he => (m.block k (Nat.lt_of_lt_of_le hk hmw.size) (fun h => by omega)).trans (hmw.block k hk he)⟩
        · exact (m.block _ (Array.getElem?_eq_some_iff.1 hl).1 (fun h => h.1 ((hE _).2 (.inr rfl)))).trans hl
      · obtain ⟨E0, hE, hEl, ⟨hi, hmw, hgw⟩, hl⟩ := h
        rcases (hE k).1 hk with h | rfl
        · exact hI.low _ _ _ hi k h
        · exact (Array.getElem?_eq_some_iff.1 hl).1
    · refine ⟨fun s E1 W V h m => ?_, fun s E1 W h k hk => ?_⟩
      · obtain ⟨E0, c, hE, hEl, ⟨hi, hmw, hgw⟩, hl⟩ := h
        refine ⟨E0, c, hE, hEl, ⟨hIx.keep _ _ _ _ hi (m.out (fun k _ h => ⟨fun e => h.1 ((hE k).2 (.inl e)), by omega⟩)), ?_, hgw⟩, ?_⟩
        · exact ⟨m.os.trans hmw.os, m.tape.trans hmw.tape, m.output.trans hmw.output, Nat.le_trans hmw.size m.size, fun k hk he => (m.block k (Nat.lt_of_lt_of_le hk hmw.size) (fun h => by omega)).trans (hmw.block k hk he)⟩
        · exact (m.block _ (Array.getElem?_eq_some_iff.1 hl).1 (fun h => h.1 ((hE _).2 (.inr rfl)))).trans hl
      · obtain ⟨E0, c, hE, hEl, ⟨hi, hmw, hgw⟩, hl⟩ := h
        rcases (hE k).1 hk with h | rfl
        · exact hIx.low _ _ _ hi k h
        · exact (Array.getElem?_eq_some_iff.1 hl).1
    · exact ⟨E, fun k => Iff.rfl, fun h => by have := hlow _ h; omega, ⟨hI.keep _ _ _ _ h0 (by rw [← hW1]; exact Mv.alloc _ _ _), m1, Gr.refl _ _⟩, hL1⟩
    · rintro e W2 ⟨⟨v, rfl⟩, m2, (⟨E1, g2, E0, hE, hEl, ⟨hi, mW, gW⟩, hl⟩ | ⟨E1, g2, E0, c, hE, hEl, ⟨hi, mW, gW⟩, hl⟩)⟩
      · exact ⟨none, _, run_endLoop hl (by simp), hdone E0 _ (mW.put_new (by omega) _) gW (hI.keep _ _ _ _ hi (.put ⟨hEl, by omega⟩ _))⟩
      · exact ⟨some c, _, run_endLoop hl (by simp), hstop c E0 _ (mW.put_new (by omega) _) gW (hIx.keep _ _ _ _ hi (.put ⟨hEl, by omega⟩ _))⟩
theorem Ter.up {β : Type} {B B' : Nat} {J : β → (Nat → Prop) → World → Prop} (h : Ter B J) (hB : B ≤ B') : Ter B' J :=
  ⟨fun s E W V hj m => h.keep s E W V hj (m.mono (fun _ _ hk => ⟨hk.1, Nat.le_trans hB hk.2⟩)), h.low⟩
theorem Ter.comp {β γ : Type} {B : Nat} {J : β → (Nat → Prop) → World → Prop} (h : Ter B J) (f : γ → β) : Ter B (fun s => J (f s)) :=
  ⟨fun s E W V hj m => h.keep (f s) E W V hj m, fun s E W hj => h.low (f s) E W hj⟩
theorem Ter.and {β : Type} {B : Nat} {J : β → (Nat → Prop) → World → Prop} (h : Ter B J) (p : β → Prop) : Ter B (fun s E W => p s ∧ J s E W) :=
  ⟨fun s E W V hj m => ⟨hj.1, h.keep s E W V hj.2 m⟩, fun s E W hj => h.low s E W hj.2⟩
theorem Mv.twin {E : Nat → Prop} {A B C : World} {l : Nat} (h : Mv E A B) (t : Twin l B C) (hl : A.heap.size ≤ l) : Mv E A C :=
  ⟨t.os.trans h.os, t.tape.trans h.tape, t.output.trans h.output, by have := h.size; rw [t.size]; exact this, fun k hk he => (t.block k (by omega)).trans (h.block k hk he)⟩
theorem Twin.mv {l : Nat} {A B : World} (t : Twin l A B) : Mv (fun k => k = l) A B := ⟨t.os, t.tape, t.output, by rw [t.size]; exact Nat.le_refl _, fun k _ hk => t.block k hk⟩
/-- What holds behind the assignment, when the round has begun. -/
theorem Twin.go {α : Type} {B l : Nat} {I : List α → (Nat → Prop) → World → Prop} {E E0 : Nat → Prop} {w W W1 W2 : World} {s : List α} (t : Twin l W1 W2) (hI : Ter B I) (hi : I s E W) (m : Mv (fun k => ¬ E k ∧ B ≤ k) W W1) (hm : Mv E0 w W) (hw : w.heap.size ≤ B) (hl : B ≤ l) (hE : ¬ E l) :
    I s E W2 ∧ Mv E0 w W2 := by
  refine ⟨hI.keep _ _ _ _ (hI.keep _ _ _ _ hi m) (t.mv.mono (fun k _ e => by subst e; exact ⟨hE, hl⟩)), ?_⟩
  have h1 : Mv E0 w W1 := ⟨m.os.trans hm.os, m.tape.trans hm.tape, m.output.trans hm.output, Nat.le_trans hm.size m.size, fun k hk he => (m.block k (Nat.lt_of_lt_of_le hk hm.size) (fun h => by omega)).trans (hm.block k hk he)⟩
  exact h1.twin t (Nat.le_trans hw hl)
theorem Gr.free {E : Nat → Prop} {A : World} {k : Nat} {E' : Nat → Prop} (g : Gr E A E') (h : k < A.heap.size) (hk : ¬ E k) : ¬ E' k := fun h' => by
  rcases g k h' with h1 | h1
  · exact hk h1
  · omega
end Go.Proofs.YtedgnigogkmgkaaGreatDoor
