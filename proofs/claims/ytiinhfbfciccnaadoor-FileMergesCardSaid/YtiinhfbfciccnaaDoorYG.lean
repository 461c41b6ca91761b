import Derived.Test.YtiinhfbfciccnaaDoorYA
import Derived.Test.YtiinhfbfciccnaaDoorYB
import Derived.Deep.AppendLies
import Derived.Deep.RegionLaw
import Derived.Test.YtiinhfbfciccnaaDoorYC
/- Rows whose elements lie in memory of the row's own: the law of a loop over such a row. -/
namespace Go.Proofs.YtiinhfbfciccnaaDoor
open Go.RowKit Go.Shelf
/-- The taker of a row: it takes x, and goes on or not. -/
def YiR (P : Program) {α : Type} (l : Nat) (R : α → (Nat → Prop) → World → Array Value → Prop) (J : List α → (Nat → Prop) → World → Prop) (Jx : Unit → (Nat → Prop) → World → Prop) : Prop :=
  ∀ x rest E W args, J (x :: rest) E W → R x E W args → YieldAt Fence.wide 3 P l args W fun e V => Mv E W V ∧
    ((e = .returned (.bool true) ∧ ∃ E', Gr E W E' ∧ J rest E' V) ∨ (e = .returned (.bool false) ∧ ∃ E', Gr E W E' ∧ Jx () E' V))
/-- Function g with what it has captured is the row xs, for all takers that turn nothing but E and what is new behind W. -/
def RowR (P : Program) {α : Type} (g : Nat) (lb : Array Value) (R : α → (Nat → Prop) → World → Array Value → Prop) (xs : List α) (E : Nat → Prop) (W : World) : Prop :=
  ∀ (l : Nat) (J : List α → (Nat → Prop) → World → Prop) (Jx : Unit → (Nat → Prop) → World → Prop) (E1 : Nat → Prop) (V : World),
    Mv E W V → Gr E W E1 → Ter V.heap.size J → Ter V.heap.size Jx → YiR P l R J Jx → J xs E1 V →
    Calls P g (#[.func (.yield l) #[] #[]] ++ lb) V (Went J Jx E1 V)
/-- What one round asks of its code. -/
def RoundOkR (P : Program) {α : Type} (ps : Array Tmp) (assign body : Code) (R : α → (Nat → Prop) → World → Array Value → Prop) (I : List α → (Nat → Prop) → World → Prop) (Ix : Code → (Nat → Prop) → World → Prop) (tmps : Array Value) (E0 : Nat → Prop) (w : World) (l : Nat) : Prop :=
  ∀ x rest E W args, I (x :: rest) E W → R x E W args → Mv E0 w W → Gr E0 w E → ¬ E l → (∃ r, W.heap[l]? = some (.loop r)) →
    assign.wpIn (Fence.wide.inRound l) 3 P (Exit.then (fun a₁ W1 => (Mv E W W1 ∧ W1.heap[l]? = W.heap[l]?) ∧ ∀ W2, Twin l W1 W2 → body.wpIn (Fence.wide.inRound l) 3 P (roundX I Ix rest E W2) a₁ W2) (fun _ _ _ => False))
      { tmps := (ps.zip args).foldl (fun t (p, v) => t.setIfInBounds p v) tmps, defers := [] } W
theorem yiR_of_round {P : Program} {α : Type} {ps : Array Tmp} {assign body : Code} {R : α → (Nat → Prop) → World → Array Value → Prop} {I : List α → (Nat → Prop) → World → Prop} {Ix : Code → (Nat → Prop) → World → Prop} {tmps : Array Value} {l fn D : Nat}
    {B : Nat} {E00 : Nat → Prop} {w : World} (hl0 : w.heap.size ≤ l) (hBl : B ≤ l) (hI : Ter B I) (hIx : Ter B Ix) (hps : ∀ x E W args, R x E W args → args.size = ps.size) (hRm : ∀ x E E' W args, (∀ k, E k → E' k) → R x E' W args → R x E W args) (hr : RoundOkR P ps assign body R I Ix tmps E00 w l) :
    YiR P l R
      (fun rest E1 W => ∃ E, (∀ k, E1 k ↔ (E k ∨ k = l)) ∧ ¬ E l ∧ (I rest E W ∧ Mv E00 w W ∧ Gr E00 w E) ∧ W.heap[l]? = some (.loop { state := .ready, pending := none, fn := fn, tmps := tmps, params := ps, assign := assign, body := body, defers := D }))
      (fun _ E1 W => ∃ E c, (∀ k, E1 k ↔ (E k ∨ k = l)) ∧ ¬ E l ∧ (Ix c E W ∧ Mv E00 w W ∧ Gr E00 w E) ∧ W.heap[l]? = some (.loop { state := .done, pending := some c, fn := fn, tmps := tmps, params := ps, assign := assign, body := body, defers := D })) := by
  rintro x rest E1 W args ⟨E, hE, hEl, ⟨hi, hmw, hgw⟩, hl⟩ hR
  obtain ⟨rec, hrec⟩ : ∃ rec : LoopState → Option Code → Loop, rec = fun st pe => { state := st, pending := pe, fn := fn, tmps := tmps, params := ps, assign := assign, body := body, defers := D } := ⟨_, rfl⟩
  have hlr : W.heap[l]? = some (.loop (rec .ready none)) := by rw [hrec]; exact hl
  have hy := run_yield (P := P) (args := args) hl (hps x E1 W args hR)
  refine ⟨fn, _, assign, body, hy, roundIn_of_wpIn trivial ?_⟩
  refine wpIn_mono (hr x rest E W args hi (hRm x E E1 W args (fun k hk => (hE k).2 (.inl hk)) hR) hmw hgw hEl ⟨_, hl⟩) ?_
  intro e a1 W1 he
  cases e with
  | normal =>
    obtain ⟨⟨m1, hk1⟩, hb⟩ := he
    have hl1 := hk1.trans hlr
    have hlt : l < W1.heap.size := (Array.getElem?_eq_some_iff.1 hl1).1
    have hltW : l < W.heap.size := (Array.getElem?_eq_some_iff.1 hl).1
    refine ⟨_, run_beginRound hl1 (by rw [hrec]), ?_⟩
    have hl2 : (W1.putObj l (.loop { rec .ready none with state := .busy })).heap[l]? = some (.loop { rec .ready none with state := .busy }) := World.putObj_heap_same hlt
    have tw : Twin l W1 (W1.putObj l (.loop { rec .ready none with state := .busy })) := ⟨rfl, rfl, rfl, by simp, fun k hk => World.putObj_heap_other hk, ⟨_, hl2⟩⟩
    have m1' : Mv E1 W W1 := m1.mono (fun k _ h => (hE k).2 (.inl h))
    have m2 : Mv E1 W (W1.putObj l (.loop { rec .ready none with state := .busy })) := m1'.trans' (.put ((hE l).2 (.inr rfl)) _)
    refine wpIn_mono (hb _ tw) ?_
    revert hl2 m2
    generalize hW2 : W1.putObj l (.loop { rec .ready none with state := .busy }) = W2
    intro hl2 m2
    have hmw2 : Mv E00 w W2 := by rw [← hW2]; exact (hmw.trans hgw m1).put_new hl0 _
    have fin : ∀ (jump : Option Code) (W3 : World), Mv E W2 W3 → (Instr.endRound l jump).run P W3 = .ok (.bool jump.isNone) (W3.putObj l (.loop (rec (if jump.isNone then .ready else .done) jump))) ∧
        (W3.putObj l (.loop (rec (if jump.isNone then .ready else .done) jump))).heap[l]? = some (.loop (rec (if jump.isNone then .ready else .done) jump)) ∧ Mv E1 W (W3.putObj l (.loop (rec (if jump.isNone then .ready else .done) jump))) ∧ Mv E00 w (W3.putObj l (.loop (rec (if jump.isNone then .ready else .done) jump))) := by
      intro jump W3 m3
      have hl3 := (m3.block l (Array.getElem?_eq_some_iff.1 hl2).1 hEl).trans hl2
      have := run_endRound (P := P) jump hl3
      rw [hrec] at this ⊢
      exact ⟨this, World.putObj_heap_same (Array.getElem?_eq_some_iff.1 hl3).1, (m2.trans' (m3.mono (fun k _ h => (hE k).2 (.inl h)))).trans' (.put ((hE l).2 (.inr rfl)) _), ((hmw2.trans hgw m3).put_new hl0 _)⟩
    have grow : ∀ (E' : Nat → Prop) (V : World), Gr E W2 E' → Gr E1 W (fun k => (E' k ∧ k ≠ l) ∨ k = l) := by
      intro E' V g k hk
      rcases hk with ⟨hk, hne⟩ | rfl
      · rcases g k hk with h | h
        · exact .inl ((hE k).2 (.inl h))
        · exact .inr (Nat.le_trans m2.size h)
      · exact .inl ((hE k).2 (.inr rfl))
    have nel : ∀ (E' : Nat → Prop), Gr E W2 E' → ∀ k, E' k → k ≠ l := by
      intro E' g k hk e
      subst e
      rcases g k hk with h | h
      · exact hEl h
      · have := (Array.getElem?_eq_some_iff.1 hl2).1; omega
    have ggw : ∀ (E' : Nat → Prop), Gr E W2 E' → Gr E00 w E' := fun E' g => hgw.trans (Nat.le_trans hmw.size (by rw [← hW2]; simpa using m1.size)) g
    intro e3 a3 W3 hp
    cases e3 with
    | normal =>
      obtain ⟨m3, E', g3, hi3⟩ := hp
      obtain ⟨r3, hl4, m4, m5⟩ := fin none W3 m3
      refine ⟨_, _, r3, m4, .inl ⟨rfl, _, grow E' W3 g3, E', fun k => ?_, fun h => nel E' g3 l h rfl, ⟨hI.keep _ _ _ _ hi3 (.put ⟨fun h => nel E' g3 l h rfl, hBl⟩ _), m5, ggw E' g3⟩, by rw [hl4, hrec]; rfl⟩⟩
      exact ⟨fun h => h.imp And.left id, fun h => h.imp (fun h => ⟨h, nel E' g3 k h⟩) id⟩
    | ret =>
      obtain ⟨m3, E', g3, hi3⟩ := hp
      obtain ⟨r3, hl4, m4, m5⟩ := fin (some .ret) W3 m3
      refine ⟨_, _, r3, m4, .inr ⟨rfl, _, grow E' W3 g3, E', _, fun k => ?_, fun h => nel E' g3 l h rfl, ⟨hIx.keep _ _ _ _ hi3 (.put ⟨fun h => nel E' g3 l h rfl, hBl⟩ _), m5, ggw E' g3⟩, by rw [hl4, hrec]; rfl⟩⟩
      exact ⟨fun h => h.imp And.left id, fun h => h.imp (fun h => ⟨h, nel E' g3 k h⟩) id⟩
    | exit id' =>
      obtain ⟨m3, E', g3, hi3⟩ := hp
      obtain ⟨r3, hl4, m4, m5⟩ := fin (some (.exit id')) W3 m3
      refine ⟨_, _, r3, m4, .inr ⟨rfl, _, grow E' W3 g3, E', _, fun k => ?_, fun h => nel E' g3 l h rfl, ⟨hIx.keep _ _ _ _ hi3 (.put ⟨fun h => nel E' g3 l h rfl, hBl⟩ _), m5, ggw E' g3⟩, by rw [hl4, hrec]; rfl⟩⟩
      exact ⟨fun h => h.imp And.left id, fun h => h.imp (fun h => ⟨h, nel E' g3 k h⟩) id⟩
    | goto t =>
      obtain ⟨m3, E', g3, hi3⟩ := hp
      obtain ⟨r3, hl4, m4, m5⟩ := fin (some (.goto t)) W3 m3
      refine ⟨_, _, r3, m4, .inr ⟨rfl, _, grow E' W3 g3, E', _, fun k => ?_, fun h => nel E' g3 l h rfl, ⟨hIx.keep _ _ _ _ hi3 (.put ⟨fun h => nel E' g3 l h rfl, hBl⟩ _), m5, ggw E' g3⟩, by rw [hl4, hrec]; rfl⟩⟩
      exact ⟨fun h => h.imp And.left id, fun h => h.imp (fun h => ⟨h, nel E' g3 k h⟩) id⟩
    | panic ch => exact hp.elim
    | outgrown => exact hp.elim
  | ret => exact he.elim
  | exit _ => exact he.elim
  | goto _ => exact he.elim
  | panic _ => exact he.elim
  | outgrown => exact he.elim
/-- A loop over a row, outside of all rounds. -/
theorem loop_outR {P : Program} {α : Type} {n : Nat} {g : Operand} {ps : Array Tmp} {assign body : Code} {Q : Exit → Act → World → Prop} {a : Act} {w : World} {gf : Nat} {lb : Array Value}
    (hg : a.eval g = .func (.func gf) #[] lb) (eg : ∀ args w, (callFunc gf args).run P w = .ok (.enter gf args) w) {R : α → (Nat → Prop) → World → Array Value → Prop} {xs : List α} {E : Nat → Prop}
    (hrow : RowR P gf lb R xs E w) (hps : ∀ x E W args, R x E W args → args.size = ps.size) (hRm : ∀ x E E' W args, (∀ k, E k → E' k) → R x E' W args → R x E W args) (I : List α → (Nat → Prop) → World → Prop) (Ix : Code → (Nat → Prop) → World → Prop) (hI : Ter w.heap.size I) (hIx : Ter w.heap.size Ix) (h0 : I xs E w)
    (hround : ∀ l, w.heap.size ≤ l → RoundOkR P ps assign body R I Ix a.tmps E w l)
    (hdone : ∀ D E' W, w.heap.size ≤ D → W.heap[D]? = some (.deferred (some [])) → ¬ E' D → Mv E w W → Gr E w E' → I [] E' W → Q .normal { a with defers := { target := .collected D, args := #[] } :: a.defers } W)
    (hstop : ∀ D c E' W, w.heap.size ≤ D → W.heap[D]? = some (.deferred (some [])) → ¬ E' D → Mv E w W → Gr E w E' → Ix c E' W → c.wpIn Fence.wide n P Q { a with defers := { target := .collected D, args := #[] } :: a.defers } W) :
    (Code.rangeFunc g ps assign body).wpIn Fence.wide n P Q a w := by
  refine wpIn_rangeFunc ?_
  intro fn _
  have hlow := hI.low _ _ _ h0
  obtain ⟨W1, hW1⟩ : ∃ W1, (w.alloc (.deferred (some []))).alloc (.loop { state := .ready, pending := none, fn := fn, tmps := a.tmps, params := ps, assign := assign, body := body, defers := w.heap.size }) = W1 := ⟨_, rfl⟩
  have hL1 : W1.heap[w.heap.size + 1]? = some (.loop { state := .ready, pending := none, fn := fn, tmps := a.tmps, params := ps, assign := assign, body := body, defers := w.heap.size }) := by
    rw [← hW1]; have := World.alloc_heap_new (w.alloc (.deferred (some []))) (.loop { state := .ready, pending := none, fn := fn, tmps := a.tmps, params := ps, assign := assign, body := body, defers := w.heap.size }); rwa [World.size_alloc] at this
  have hK1 : W1.heap[w.heap.size]? = some (.deferred (some [])) := by
    rw [← hW1]; exact (Below.heap_alloc _ _ _ (by simp)).trans (World.alloc_heap_new w _)
  have hs1 : W1.heap.size = w.heap.size + 2 := by rw [← hW1]; simp
  have m1 : Mv E w W1 := by rw [← hW1]; exact (Mv.alloc _ _ _).trans' (Mv.alloc _ _ _)
  have g1 : Gr E w (fun k => E k ∨ k = w.heap.size + 1) := fun k hk => hk.imp id (fun e => by omega)
  refine ⟨w.heap.size + 1, [{ target := .collected w.heap.size, args := #[] }], W1, { target := .fn (.func gf) lb, args := #[.func (.yield (w.heap.size + 1)) #[] #[]] }, W1, gf, #[.func (.yield (w.heap.size + 1)) #[] #[]] ++ lb, W1, ?_, ?_, fun _ _ => trivial, ?_, fun h => (by cases h), callsIn_wide.2 ?_⟩
  · rw [← hW1]; exact run_enterLoop_outer _ _ _ _ _
  · simp only [resolve, hg]
    simp [go_sem]
  · simp [invoke, go_sem, eg]
  · refine (hrow (w.heap.size + 1) _ _ (fun k => E k ∨ k = w.heap.size + 1) W1 m1 g1 ?_ ?_ (yiR_of_round (fn := fn) (D := w.heap.size) (by omega) (by omega) hI hIx hps hRm (hround _ (by omega))) ?_).mono ?_
    · refine ⟨fun s E1 W V h m => ?_, fun s E1 W h k hk => ?_⟩
      · obtain ⟨E0, hE, hEl, ⟨hi, hmw, hgw⟩, hl⟩ := h
        refine ⟨E0, hE, hEl, ⟨hI.keep _ _ _ _ hi (m.out (fun k _ h => ⟨fun e => h.1 ((hE k).2 (.inl e)), by omega⟩)), ?_, hgw⟩, ?_⟩
        · exact ⟨m.os.trans hmw.os, m.tape.trans hmw.tape, m.output.trans hmw.output, Nat.le_trans hmw.size m.size, fun k hk he => (m.block k (Nat.lt_of_lt_of_le hk hmw.size) (fun h => by omega)).trans (hmw.block k hk he)⟩
        · exact (m.block _ (Array.getElem?_eq_some_iff.1 hl).1 (fun h => h.1 ((hE _).2 (.inr rfl)))).trans hl
      · obtain ⟨E0, hE, hEl, ⟨hi, hmw, hgw⟩, hl⟩ := h
        rcases (hE k).1 hk with h | rfl
        · exact hI.low _ _ _ hi k h
        · exact (Array.getElem?_eq_some_iff.1 hl).1
    · refine ⟨fun s E1 W V h m => ?_, fun s E1 W h k hk => ?_⟩
      · obtain ⟨E0, c, hE, hEl, ⟨hi, hmw, hgw⟩, hl⟩ := h
        refine ⟨E0, c, hE, hEl, ⟨hIx.keep _ _ _ _ hi (m.out (fun k _ h => ⟨fun e => h.1 ((hE k).2 (.inl e)), by omega⟩)), ?_, hgw⟩, ?_⟩
        · exact ⟨m.os.trans hmw.os, m.tape.trans hmw.tape, m.output.trans hmw.output, Nat.le_trans hmw.size m.size, fun k hk he => (m.block k (Nat.lt_of_lt_of_le hk hmw.size) (fun h => by omega)).trans (hmw.block k hk he)⟩
        · exact (m.block _ (Array.getElem?_eq_some_iff.1 hl).1 (fun h => h.1 ((hE _).2 (.inr rfl)))).trans hl
      · obtain ⟨E0, c, hE, hEl, ⟨hi, hmw, hgw⟩, hl⟩ := h
        rcases (hE k).1 hk with h | rfl
        · exact hIx.low _ _ _ hi k h
        · exact (Array.getElem?_eq_some_iff.1 hl).1
    · exact ⟨E, fun k => Iff.rfl, fun h => by have := hlow _ h; omega, ⟨hI.keep _ _ _ _ h0 (by rw [← hW1]; exact (Mv.alloc _ _ _).trans' (Mv.alloc _ _ _)), m1, Gr.refl _ _⟩, hL1⟩
    · rintro e W2 ⟨⟨v, rfl⟩, m2, (⟨E1, g2, E0, hE, hEl, ⟨hi, mW, gW⟩, hl⟩ | ⟨E1, g2, E0, c, hE, hEl, ⟨hi, mW, gW⟩, hl⟩)⟩
      all_goals
        have hKD : W2.heap[w.heap.size]? = some (.deferred (some [])) := (m2.block _ (by omega) (fun h => by rcases h with h | h; exact absurd (hlow _ h) (by omega); omega)).trans hK1
        have nD : ¬ E0 w.heap.size := fun h => by
          rcases g2 _ ((hE _).2 (.inl h)) with (h | h) | h
          · exact absurd (hlow _ h) (by omega)
          · omega
          · omega
      · refine ⟨none, _, run_endLoop hl (by simp), ?_⟩
        exact hdone w.heap.size E0 _ (Nat.le_refl _) ((World.putObj_heap_other (by omega)).trans hKD) nD (mW.put_new (by omega) _) gW (hI.keep _ _ _ _ hi (.put ⟨hEl, by omega⟩ _))
      · refine ⟨some c, _, run_endLoop hl (by simp), ?_⟩
        exact hstop w.heap.size c E0 _ (Nat.le_refl _) ((World.putObj_heap_other (by omega)).trans hKD) nD (mW.put_new (by omega) _) gW (hIx.keep _ _ _ _ hi (.put ⟨hEl, by omega⟩ _))
/-- A loop over a row, in a round of another one. -/
theorem loop_inR {P : Program} {α : Type} {n l₀ : Nat} {g : Operand} {ps : Array Tmp} {assign body : Code} {Q : Exit → Act → World → Prop} {a : Act} {w : World} {gf : Nat} {lb : Array Value}
    (hl₀ : ∃ r₀, w.heap[l₀]? = some (.loop r₀)) (hg : a.eval g = .func (.func gf) #[] lb) (eg : ∀ args w, (callFunc gf args).run P w = .ok (.enter gf args) w) {R : α → (Nat → Prop) → World → Array Value → Prop} {xs : List α} {E : Nat → Prop}
    (hrow : RowR P gf lb R xs E w) (hps : ∀ x E W args, R x E W args → args.size = ps.size) (hRm : ∀ x E E' W args, (∀ k, E k → E' k) → R x E' W args → R x E W args) (I : List α → (Nat → Prop) → World → Prop) (Ix : Code → (Nat → Prop) → World → Prop) (hI : Ter w.heap.size I) (hIx : Ter w.heap.size Ix) (h0 : I xs E w)
    (hround : ∀ l, w.heap.size ≤ l → RoundOkR P ps assign body R I Ix a.tmps E w l)
    (hdone : ∀ E' W, Mv E w W → Gr E w E' → I [] E' W → Q .normal a W)
    (hstop : ∀ c E' W, Mv E w W → Gr E w E' → Ix c E' W → c.wpIn (Fence.wide.inRound l₀) n P Q a W) :
    (Code.rangeFunc g ps assign body).wpIn (Fence.wide.inRound l₀) n P Q a w := by
  refine wpIn_rangeFunc ?_
  intro fn _
  obtain ⟨r₀, hl₀⟩ := hl₀
  have hlow := hI.low _ _ _ h0
  obtain ⟨W1, hW1⟩ : ∃ W1, w.alloc (.loop { state := .ready, pending := none, fn := fn, tmps := a.tmps, params := ps, assign := assign, body := body, defers := r₀.defers }) = W1 := ⟨_, rfl⟩
  have hL1 : W1.heap[w.heap.size]? = some (.loop { state := .ready, pending := none, fn := fn, tmps := a.tmps, params := ps, assign := assign, body := body, defers := r₀.defers }) := by
    rw [← hW1]; exact World.alloc_heap_new w _
  have hs1 : W1.heap.size = w.heap.size + 1 := by rw [← hW1]; simp
  have m1 : Mv E w W1 := by rw [← hW1]; exact Mv.alloc _ _ _
  have g1 : Gr E w (fun k => E k ∨ k = w.heap.size) := fun k hk => hk.imp id (fun e => by omega)
  refine ⟨w.heap.size, [], W1, { target := .fn (.func gf) lb, args := #[.func (.yield w.heap.size) #[] #[]] }, W1, gf, #[.func (.yield w.heap.size) #[] #[]] ++ lb, W1, ?_, ?_, fun _ _ => trivial, ?_, fun h => (by cases h), CallsIn.inRound l₀ (callsIn_wide.2 ?_)⟩
  · rw [← hW1]; exact run_enterLoop_inner hl₀ _ _ _ _ _
  · simp only [resolve, hg]
    simp [go_sem]
  · simp [invoke, go_sem, eg]
  · refine (hrow w.heap.size _ _ (fun k => E k ∨ k = w.heap.size) W1 m1 g1 ?_ ?_ (yiR_of_round (fn := fn) (D := r₀.defers) (by omega) (by omega) hI hIx hps hRm (hround _ (by omega))) ?_).mono ?_
    · refine ⟨fun s E1 W V h m => ?_, fun s E1 W h k hk => ?_⟩
      · obtain ⟨E0, hE, hEl, ⟨hi, hmw, hgw⟩, hl⟩ := h
        refine ⟨E0, hE, hEl, ⟨hI.keep _ _ _ _ hi (m.out (fun k _ h => ⟨fun e => h.1 ((hE k).2 (.inl e)), by omega⟩)), ?_, hgw⟩, ?_⟩
        · exact ⟨m.os.trans hmw.os, m.tape.trans hmw.tape, m.output.trans hmw.output, Nat.le_trans hmw.size m.size, fun k hk he => (m.block k (Nat.lt_of_lt_of_le hk hmw.size) (fun h => by omega)).trans (hmw.block k hk he)⟩
        · exact (m.block _ (Array.getElem?_eq_some_iff.1 hl).1 (fun h => h.1 ((hE _).2 (.inr rfl)))).trans hl
      · obtain ⟨E0, hE, hEl, ⟨hi, hmw, hgw⟩, hl⟩ := h
        rcases (hE k).1 hk with h | rfl
        · exact hI.low _ _ _ hi k h
        · exact (Array.getElem?_eq_some_iff.1 hl).1
    · refine ⟨fun s E1 W V h m => ?_, fun s E1 W h k hk => ?_⟩
      · obtain ⟨E0, c, hE, hEl, ⟨hi, hmw, hgw⟩, hl⟩ := h
        refine ⟨E0, c, hE, hEl, ⟨hIx.keep _ _ _ _ hi (m.out (fun k _ h => ⟨fun e => h.1 ((hE k).2 (.inl e)), by omega⟩)), ?_, hgw⟩, ?_⟩
        · exact ⟨m.os.trans hmw.os, m.tape.trans hmw.tape, m.output.trans hmw.output, Nat.le_trans hmw.size m.size, fun k hk he => (m.block k (Nat.lt_of_lt_of_le hk hmw.size) (fun h => by omega)).trans (hmw.block k hk he)⟩
        · exact (m.block _ (Array.getElem?_eq_some_iff.1 hl).1 (fun h => h.1 ((hE _).2 (.inr rfl)))).trans hl
      · obtain ⟨E0, c, hE, hEl, ⟨hi, hmw, hgw⟩, hl⟩ := h
        rcases (hE k).1 hk with h | rfl
        · exact hIx.low _ _ _ hi k h
        · exact (Array.getElem?_eq_some_iff.1 hl).1
    · exact ⟨E, fun k => Iff.rfl, fun h => by have := hlow _ h; omega, ⟨hI.keep _ _ _ _ h0 (by rw [← hW1]; exact Mv.alloc _ _ _), m1, Gr.refl _ _⟩, hL1⟩
    · rintro e W2 ⟨⟨v, rfl⟩, m2, (⟨E1, g2, E0, hE, hEl, ⟨hi, mW, gW⟩, hl⟩ | ⟨E1, g2, E0, c, hE, hEl, ⟨hi, mW, gW⟩, hl⟩)⟩
      · exact ⟨none, _, run_endLoop hl (by simp), hdone E0 _ (mW.put_new (by omega) _) gW (hI.keep _ _ _ _ hi (.put ⟨hEl, by omega⟩ _))⟩
      · exact ⟨some c, _, run_endLoop hl (by simp), hstop c E0 _ (mW.put_new (by omega) _) gW (hIx.keep _ _ _ _ hi (.put ⟨hEl, by omega⟩ _))⟩
end Go.Proofs.YtiinhfbfciccnaaDoor
/- Settings grouped by their sections: plain, and in a map of slices. -/
namespace Go.Proofs.YtiinhfbfciccnaaDoor
open Go.RowKit Go.Shelf
abbrev Gs := List (ByteArray × List St)
/-- The settings of one section so far. -/
def look (gs : Gs) (a : ByteArray) : List St := match gs with
  | [] => []
  | g :: r => if g.1 = a then g.2 else look r a
/-- One setting more in its section. -/
def grp (gs : Gs) (x : St) : Gs := match gs with
  | [] => [(x.s, [x])]
  | g :: r => if g.1 = x.s then (g.1, g.2 ++ [x]) :: r else g :: grp r x
theorem grp_mem {gs : Gs} {x : St} (hn : (gs.map Prod.fst).Nodup) {b : ByteArray} {ls : List St} : (b, ls) ∈ grp gs x ↔ (b = x.s ∧ ls = look gs x.s ++ [x]) ∨ (b ≠ x.s ∧ (b, ls) ∈ gs) := by
  induction gs with
  | nil => simp [grp, look]
  | cons g r ih =>
    simp only [List.map_cons, List.nodup_cons] at hn
    have ih := ih hn.2
    unfold grp look
    by_cases hg : g.1 = x.s
    · rw [if_pos hg, if_pos hg]
      simp only [List.mem_cons]
      have hno : ∀ ls, (x.s, ls) ∉ r := fun ls h => hn.1 (by rw [hg]; exact List.mem_map_of_mem (f := Prod.fst) h)
      constructor
      · rintro (h | h)
        · left; cases h; exact ⟨hg, rfl⟩
        · right; exact ⟨fun e => hno ls (e ▸ h), .inr h⟩
      · rintro (⟨rfl, rfl⟩ | ⟨h1, h2 | h2⟩)
        · left; rw [hg]
        · exact absurd (by rw [← hg, ← h2]) h1
        · exact .inr h2
    · rw [if_neg hg, if_neg hg]
      simp only [List.mem_cons, ih]
      constructor
      · rintro (h | h | h)
        · right; exact ⟨fun e => hg (by rw [← e, ← h]), .inl h⟩
        · exact .inl h
        · exact .inr ⟨h.1, .inr h.2⟩
      · rintro (h | ⟨h1, h2 | h2⟩)
        · exact .inr (.inl h)
        · exact .inl h2
        · exact .inr (.inr ⟨h1, h2⟩)
theorem look_mem {gs : Gs} (hn : (gs.map Prod.fst).Nodup) {a : ByteArray} {ls : List St} (h : (a, ls) ∈ gs) : look gs a = ls := by
  induction gs with
  | nil => simp at h
  | cons g r ih =>
    simp only [List.map_cons, List.nodup_cons] at hn
    unfold look
    rcases List.mem_cons.1 h with rfl | h
    · rw [if_pos rfl]
    · rw [if_neg (fun e => hn.1 (by rw [e]; exact List.mem_map_of_mem (f := Prod.fst) h))]
      exact ih hn.2 h
theorem look_none {gs : Gs} {a : ByteArray} (h : a ∉ gs.map Prod.fst) : look gs a = [] := by
  induction gs with
  | nil => rfl
  | cons g r ih =>
    simp only [List.map_cons, List.mem_cons, not_or] at h
    unfold look
    rw [if_neg (fun e => h.1 e.symm)]
    exact ih h.2
theorem grp_names (gs : Gs) (x : St) : (x.s ∈ gs.map Prod.fst ∧ (grp gs x).map Prod.fst = gs.map Prod.fst) ∨ (x.s ∉ gs.map Prod.fst ∧ (grp gs x).map Prod.fst = gs.map Prod.fst ++ [x.s]) := by
  induction gs with
  | nil => right; simp [grp]
  | cons g r ih =>
    unfold grp
    by_cases hg : g.1 = x.s
    · left; rw [if_pos hg]; simp [hg]
    · rw [if_neg hg]
      have hne : ¬ x.s = g.1 := fun e => hg e.symm
      rcases ih with ⟨h1, h2⟩ | ⟨h1, h2⟩
      · left; exact ⟨by simp only [List.map_cons, List.mem_cons]; exact .inr h1, by rw [List.map_cons, h2, List.map_cons]⟩
      · right; exact ⟨by simp only [List.map_cons, List.mem_cons, hne, false_or]; exact h1, by rw [List.map_cons, h2, List.map_cons]; rfl⟩
theorem grp_nodup {gs : Gs} (hn : (gs.map Prod.fst).Nodup) (x : St) : ((grp gs x).map Prod.fst).Nodup := by
  rcases grp_names gs x with ⟨_, h⟩ | ⟨h1, h⟩
  · rw [h]; exact hn
  · rw [h, List.nodup_append]
    exact ⟨hn, by simp, fun a ha b hb e => by simp at hb; subst hb; exact h1 (e ▸ ha)⟩
def heldElem (v : Value) : Option (DataW Value × List MemPlace) := some (.held v, [])
theorem law9 : Maps.Keyed Tryd.prog 9 := Maps.string_keyed Tryd.underlying9
/-- Block bm is the map of the sections' slices. -/
structure PG (w : World) (bm n : Nat) (gs : Gs) (vf : ByteArray → Value) : Prop where
  mp : ∃ D, w.ownsMap Tryd.prog 9 heldElem bm n D ∧ ∀ a kl, keyOf Tryd.prog 9 (.string a) = some kl → D.atKey kl (.held (.slice none 0 0)) = .held (vf a)
  row : ∀ a, w.ownsRow (bm + 1) 44 4 (vf a) (look gs a).length (stsC (look gs a))
  ne : ∀ a ls, (a, ls) ∈ gs → ls ≠ []
  sep : ∀ a b k, (vf a).ownBlock = some k → (vf b).ownBlock = some k → a = b
  nam : (gs.map Prod.fst).Nodup
theorem PG.new (w : World) : PG (w.alloc (.map #[] 0)) w.heap.size 0 [] (fun _ => .slice none 0 0) :=
  ⟨⟨_, World.ownsMap_made _ _ _ _, fun _ _ _ => rfl⟩, fun _ => World.ownsRow_nil _ _ _ _, fun _ _ h => (by simp at h), fun _ _ _ h => (by simp [Value.ownBlock] at h), by simp⟩
theorem ownsMap_mv {H : Type} {P : Program} {k : TypeId} {R : Value → Option (DataW H × List MemPlace)} {w w' : World} {b n : Nat} {D : DataW H} {E : Nat → Prop} (h : w.ownsMap P k R b n D) (m : Mv E w w') (hE : ¬ E b) : w'.ownsMap P k R b n D := by
  obtain ⟨es, c, hb, q⟩ := h
  exact ⟨es, c, (m.block b (Array.getElem?_eq_some_iff.1 hb).1 hE).trans hb, q⟩
theorem PG.mv {w w' : World} {bm n : Nat} {gs : Gs} {vf : ByteArray → Value} {E : Nat → Prop} (h : PG w bm n gs vf) (m : Mv E w w') (hm : ¬ E bm) (hE : ∀ a k, (vf a).ownBlock = some k → ¬ E k) : PG w' bm n gs vf := by
  obtain ⟨D, hD, hDm⟩ := h.mp
  exact ⟨⟨D, ownsMap_mv hD m hm, hDm⟩, fun a => own_mv (h.row a) m (fun g hg => hE a g hg), h.ne, h.sep, h.nam⟩
theorem PG.lt {w : World} {bm n : Nat} {gs : Gs} {vf : ByteArray → Value} (h : PG w bm n gs vf) : bm < w.heap.size := by obtain ⟨D, hD, _⟩ := h.mp; exact hD.lt
theorem PG.lookup {w : World} {bm n : Nat} {gs : Gs} {vf : ByteArray → Value} (h : PG w bm n gs vf) {a : ByteArray} (ha : a.size ≤ 1000000000) (hz : (zeroValue 23).run Tryd.prog w = .ok (.slice none 0 0) w) :
    (Instr.lookup 98 (.map (some bm)) (.string a) false).run Tryd.prog w = .ok (vf a) w := by
  obtain ⟨D, hD, hDm⟩ := h.mp
  have hk := WideMaps.keyOf_string_mk (P := Tryd.prog) Tryd.underlying9 (s := a) (by unfold maxLen; omega)
  obtain ⟨v, ps, hrun, hv⟩ := hD.lookup (t := 98) (e := 23) law9 Tryd.underlying98 hz (zd := .held (.slice none 0 0)) (zp := []) rfl hk
  rw [hDm _ _ hk] at hv
  simp only [heldElem, Option.some.injEq, Prod.mk.injEq, DataW.held.injEq] at hv
  rw [hrun, hv.1]
theorem look_grp (gs : Gs) (x : St) (a : ByteArray) : look (grp gs x) a = if a = x.s then look gs a ++ [x] else look gs a := by
  induction gs with
  | nil =>
    by_cases h : a = x.s
    · subst h; simp [grp, look]
    · rw [if_neg h]; simp only [grp, look, if_neg (fun e : x.s = a => h e.symm)]
  | cons g r ih =>
    unfold grp
    by_cases hg : g.1 = x.s
    · rw [if_pos hg]
      by_cases h : a = x.s
      · subst h; simp [look, hg]
      · rw [if_neg h]
        have : ¬ g.1 = a := fun e => h (by rw [← e, hg])
        simp [look, this]
    · rw [if_neg hg]
      by_cases hga : g.1 = a
      · subst hga; simp [look, hg]
      · simp only [look, if_neg hga]; exact ih
theorem PG.step {w w2 w3 : World} {bm n : Nat} {gs : Gs} {vf : ByteArray → Value} {x : St} {v' : Value} (h : PG w bm n gs vf) (hx : x.s.size ≤ 1000000000) (hn : n ≤ 1000000000) (m : Mv (fun _ => False) w w2) (hgrow : w2.grownBy w3 (vf x.s).ownBlock)
    (hown : w3.ownsRow (bm + 1) 44 4 v' ((look gs x.s).length + 1) (stsC (look gs x.s) ++ stC x)) (hat : v'.ownBlock = (vf x.s).ownBlock ∨ v'.ownBlock = some w2.heap.size) :
    ∃ w4, (Instr.mapUpdate 98 (.map (some bm)) (.string x.s) v').run Tryd.prog w3 = .ok () w4 ∧ PG w4 bm (n + 1) (grp gs x) (fun b => if b = x.s then v' else vf b) ∧ w3.grownBy w4 (some bm) := by
  obtain ⟨D, hD, hDm⟩ := h.mp
  have m3 : Mv (fun k => (vf x.s).ownBlock = some k) w w3 := (m.mono (fun _ _ h => h.elim)).grown hgrow (fun k e => .inl e)
  have hlo : ∀ a k, (vf a).ownBlock = some k → bm + 1 ≤ k ∧ k < w.heap.size := fun a k e => (h.row a).lt k e
  have hD3 := ownsMap_mv hD m3 (fun e => by have := (hlo _ _ e).1; omega)
  have hk := WideMaps.keyOf_string_mk (P := Tryd.prog) Tryd.underlying9 (s := x.s) (by unfold maxLen; omega)
  obtain ⟨w4, hrun, hown4, hg4⟩ := hD3.update (t := 98) (e := 23) law9 Tryd.underlying98 (by unfold maxLen; omega) hk (val := v') (d := .held v') (ps := []) rfl
  have m4 : Mv (fun k => k = bm) w3 w4 := (Mv.refl _ _).grown hg4 (fun k e => .inl (by cases e; rfl))
  have hv' : ∀ k, v'.ownBlock = some k → bm + 1 ≤ k := fun k e => (hown.lt k e).1
  refine ⟨w4, hrun, ⟨⟨_, hown4, fun a kl hkl => ?_⟩, fun a => ?_, fun a ls hm => ?_, fun a b k ha hb => ?_, grp_nodup h.nam x⟩, hg4⟩
  · by_cases e : a = x.s
    · subst e
      rw [hk] at hkl
      cases hkl
      simp only [if_true]
      exact Maps.atKey_put_same hD3.isMap (law9.key hk) _ _
    · rw [if_neg e, Maps.atKey_put_other (fun e2 => e ?_) _ _]
      · exact hDm a kl hkl
      · have := law9.inj (e2 ▸ hkl) hk
        simpa using this
  · simp only [look_grp]
    by_cases e : a = x.s
    · subst e
      simp only [if_true]
      have := own_mv hown m4 (fun g hg e => by have := hv' g hg; omega)
      rw [List.length_append, stsC_snoc]
      exact this
    · simp only [if_neg e]
      exact own_mv (own_mv (h.row a) m3 (fun g hg e2 => e (h.sep a x.s g hg e2))) m4 (fun g hg e => by have := (hlo a g hg).1; omega)
  · rcases (grp_mem h.nam).1 hm with ⟨_, rfl⟩ | ⟨_, hm2⟩
    · simp
    · exact h.ne a ls hm2
  · by_cases ea : a = x.s <;> by_cases eb : b = x.s
    · rw [ea, eb]
    · exfalso
      simp only [if_pos ea] at ha
      simp only [if_neg eb] at hb
      rcases hat with e | e
      · rw [e] at ha; exact eb (h.sep b x.s k hb ha)
      · rw [e] at ha; cases ha
        have := (hlo b _ hb).2; have := m.size; omega
    · exfalso
      simp only [if_neg ea] at ha
      simp only [if_pos eb] at hb
      rcases hat with e | e
      · rw [e] at hb; exact ea (h.sep a x.s k ha hb)
      · rw [e] at hb; cases hb
        have := (hlo a _ ha).2; have := m.size; omega
    · simp only [if_neg ea] at ha
      simp only [if_neg eb] at hb
      exact h.sep a b k ha hb
theorem zeroSl (w : World) : (zeroValue 23).run Tryd.prog w = .ok (.slice none 0 0) w := by kernel_rfl
end Go.Proofs.YtiinhfbfciccnaaDoor
/- The row that unitfile.parts makes of settings: each section once, with all its settings. -/
namespace Go.Proofs.YtiinhfbfciccnaaDoor
open Go.RowKit Go.Shelf
attribute [local go_sem] Oper.semAt_some
/-- A section with its settings, as the row hands them over. -/
def GrpR (x : ByteArray × List St) (E : Nat → Prop) (W : World) (args : Array Value) : Prop := ∃ sv, args = #[.string x.1, sv] ∧ SlIs E W sv x.2
theorem GrpR.size (x : ByteArray × List St) (E : Nat → Prop) (W : World) (args : Array Value) (h : GrpR x E W args) : args.size = 2 := by obtain ⟨sv, rfl, _⟩ := h; rfl
theorem SlIs.anti {E E' : Nat → Prop} {W : World} {v : Value} {l : List St} (h : ∀ k, E k → E' k) (hs : SlIs E' W v l) : SlIs E W v l := by
  obtain ⟨a, c, hv, h1⟩ := hs
  refine ⟨a, c, hv, fun h0 => ?_⟩
  obtain ⟨g, o, e1, e2, e3⟩ := h1 h0
  exact ⟨g, o, e1, fun e => e2 (h g e), e3⟩
theorem GrpR.anti (x : ByteArray × List St) (E E' : Nat → Prop) (W : World) (args : Array Value) (h : ∀ k, E k → E' k) (hr : GrpR x E' W args) : GrpR x E W args := by
  obtain ⟨sv, e, hs⟩ := hr
  exact ⟨sv, e, hs.anti h⟩
/-- All settings by their sections. -/
def groups (l : List St) : Gs := l.foldl grp []
def nms (gs : Gs) : List Value := (gs.map Prod.fst).map Value.string
theorem own_slis {w : World} {base : Nat} {v : Value} {l : List St} (E : Nat → Prop) (hE : ∀ k, base ≤ k → k < w.heap.size → ¬ E k) (h : w.ownsRow base 44 4 v l.length (stsC l)) : SlIs E w v l := by
  rcases h.2 with ⟨hv, h0⟩ | ⟨g, cap, cur, hv, hb, hh, _⟩
  · exact ⟨none, 0, by rw [hv, h0], fun hp => by omega⟩
  · refine ⟨some ⟨g, 0, none⟩, cap, hv, fun _ => ⟨g, 0, rfl, hE g hb (lt_of_heap hh), fun j x hj => ?_⟩⟩
    have hjl : j < l.length := (List.getElem?_eq_some_iff.1 hj).1
    subst hv
    have hc : ∀ i, i < 4 → w.cell? ⟨g, j * 4 + i, none⟩ = (stC x)[i]? := fun i hi => (h.cellAt (j * 4 + i) (by omega)).trans (stsC_at l j x i hj hi)
    rw [Nat.zero_add]
    exact ⟨hc 0 (by omega), hc 1 (by omega), hc 2 (by omega), hc 3 (by omega)⟩
/-- The cells of owned texts. -/
theorem own_strs {w : World} {base : Nat} {v : Value} {l : List ByteArray} (h : w.ownsRow base 9 1 v l.length (l.map Value.string)) :
    ∃ (a : Option Addr) (g cap : Nat), v = .slice a l.length cap ∧ (0 < l.length → a = some ⟨g, 0, none⟩ ∧ base ≤ g) ∧ ∀ (j : Nat) s, l[j]? = some s → w.cell? ⟨g, j, none⟩ = some (.string s) := by
  rcases h.2 with ⟨hv, h0⟩ | ⟨g, cap, cur, hv, hb, _⟩
  · exact ⟨none, 0, 0, by rw [hv, h0], fun hp => by omega, fun j s hj => by have := (List.getElem?_eq_some_iff.1 hj).1; omega⟩
  · refine ⟨some ⟨g, 0, none⟩, g, cap, hv, fun _ => ⟨rfl, hb⟩, fun j s hj => ?_⟩
    have hjl : j < l.length := (List.getElem?_eq_some_iff.1 hj).1
    subst hv
    have := h.cellAt j (by omega)
    rw [this, List.getElem?_map, hj]; rfl
theorem nms_len (gs : Gs) : (gs.map Prod.fst).length = gs.length := by simp
/-- What one more setting leaves of the names, and of all else. -/
theorem part_end {V W2 w3 w4 : World} {vf : ByteArray → Value} {x : ByteArray} {ao : Option Addr} {nn cc g' cap'' m : Nat} {nv : Value} {xs : List Value} {o : Obj} (hv : vf x = .slice ao nn cc) (hV : V.heap.size < W2.heap.size) (hnv : W2.ownsRow (V.heap.size + 1) 9 1 nv m xs)
    (hsep : ∀ a q, (vf a).ownBlock = some q → nv.ownBlock ≠ some q) (hlo : ∀ a q, (vf a).ownBlock = some q → V.heap.size + 1 ≤ q) (hb : Below V.heap.size V W2) (hgrow : (W2.alloc o).drew.grownBy w3 (Value.slice ao nn cc).ownBlock)
    (hat : (Value.slice ao nn cc).ownBlock = some g' ∨ g' = (W2.alloc o).drew.heap.size) (hg4 : w3.grownBy w4 (some V.heap.size)) :
    w4.ownsRow (V.heap.size + 1) 9 1 nv m xs ∧ (∀ a q, (if a = x then Value.slice (some ⟨g', 0, none⟩) (nn + 1) cap'' else vf a).ownBlock = some q → nv.ownBlock ≠ some q) ∧ Below V.heap.size V w4 := by
  have m3 : Mv (fun k => (vf x).ownBlock = some k) W2 w3 := ((Mv.alloc _ _ _).trans' (Mv.drew _ _)).grown hgrow (fun k e => .inl (by rw [hv]; exact e))
  have m4 : Mv (fun k => k = V.heap.size) w3 w4 := (Mv.refl _ _).grown hg4 (fun k e => .inl (by cases e; rfl))
  refine ⟨own_mv (own_mv hnv m3 (fun g hg e => hsep x g e hg)) m4 (fun g hg e => by have := (hnv.lt g hg).1; omega), fun a q hq => ?_, ?_⟩
  · by_cases e : a = x
    · rw [if_pos e] at hq
      simp only [Value.ownBlock, Option.some.injEq] at hq
      subst hq
      rcases hat with h | h
      · exact hsep x _ (by rw [hv]; exact h)
      · intro e2
        have := (hnv.lt _ e2).2
        have h3 : (W2.alloc o).drew.heap.size = W2.heap.size + 1 := by show (W2.alloc o).heap.size = _; rw [World.size_alloc]
        omega
    · rw [if_neg e] at hq; exact hsep a q hq
  · exact (hb.trans (m3.toBelow (by omega) (fun k hk e => by have := hlo _ _ e; omega))).trans (m4.toBelow (by have := m3.size; omega) (fun k hk e => by omega))
theorem own_shape {w : World} {base : Nat} {e : TypeId} {size : Nat} {v : Value} {n : Nat} {xs : List Value} (h : w.ownsRow base e size v n xs) : ∃ ao n' cap, v = .slice ao n' cap := by
  rcases h.2 with ⟨hv, _⟩ | ⟨g, cap, cur, hv, _⟩
  · exact ⟨_, _, _, hv⟩
  · exact ⟨_, _, _, hv⟩
theorem own_len {w : World} {base : Nat} {e : TypeId} {size : Nat} {a : Option Addr} {k c n : Nat} {xs : List Value} (h : w.ownsRow base e size (.slice a k c) n xs) : k = n := by
  rcases h.2 with ⟨hv, h0⟩ | ⟨g, cap, cur, hv, _⟩
  · cases hv; omega
  · cases hv; rfl
set_option maxRecDepth 100000 in
set_option maxHeartbeats 8000000 in
theorem parts1_row (l : List St) (b : Nat) (v : Value) (E : Nat → Prop) (W : World) (cv : W.cell? ⟨b, 0, none⟩ = some v) (eb : ¬ E b) (hs : SlIs E W v l) (hl : l.length ≤ 1000000) (hz : ∀ x ∈ l, x.s.size ≤ 1000000000) :
    RowR Tryd.prog 42 #[.pointer (some ⟨b, 0, none⟩)] GrpR (groups l) E W := by
  intro u J Jx E1 V m g hJ hJx hY h0
  have d1 := m.cell eb cv
  obtain ⟨a, cap, rfl, hs1⟩ := hs.mv m g
  obtain ⟨n, hn⟩ : ∃ n, l.length = n := ⟨_, rfl⟩
  rw [hn] at d1 hs1 hl
  have hN : Hid (l.length = n) := hn
  have hlow := hJ.low _ _ _ h0
  obtain ⟨i0, hinf, hz0, hz1, hz2⟩ := info_parts infoSt
  obtain ⟨j0, jinf, jz0, jz1, jz2⟩ := info_parts infoS
  have hmm := @run_makeMap Tryd.prog
  have hzH : Hid (∀ x ∈ l, x.s.size ≤ 1000000000) := hz
  clear hn hs cv hz
  obtain ⟨W0, hW0⟩ : ∃ W0, V.alloc (.map #[] 0) = W0 := ⟨_, rfl⟩
  have m0 : ∀ F, Mv F V W0 := fun F => by rw [← hW0]; exact Mv.alloc _ _ _
  have hs0 : W0.heap.size = V.heap.size + 1 := by rw [← hW0]; simp
  have hPG0 : PG W0 V.heap.size 0 [] (fun _ => .slice none 0 0) := by rw [← hW0]; exact PG.new V
  have d2 := (m0 (fun _ => False)).cell (fun h => h) d1
  have hb0 : Below V.heap.size V W0 := (m0 (fun _ => False)).toBelow (Nat.le_refl _) (fun _ _ h => h)
  refine (callsIn_wide (n := 5)).1 ?_
  refine callsIn_of_wp Tryd.func42 rfl trivial ?_ rfl
  simp only [Tryd.ntmps42, List.size_toArray, List.length_cons, List.length_nil, Nat.reduceAdd, Nat.reduceSub, Array.replicate_succ, Array.replicate_zero, List.push_toArray, List.append_toArray, List.nil_append, List.cons_append]
  refine wpIn_wide.2 ?_
  go_wp2_with (rw [hW0])
  go_loopw [3, 12] (fun nv i wr => ∃ (k : Nat) (gs : Gs) (vf : ByteArray → Value), k ≤ n ∧ i = .int .i64 k ∧ gs.length ≤ k ∧ Hid (groups l = (l.drop k).foldl grp gs) ∧ Hid ((∀ a, (look gs a).length ≤ k) ∧ ∀ p ∈ gs, p.1.size ≤ 1000000000) ∧ Hid (wr.ownsRow (V.heap.size + 1) 9 1 nv gs.length (nms gs)) ∧ PG wr V.heap.size k gs vf ∧ Hid (∀ a q, (vf a).ownBlock = some q → nv.ownBlock ≠ some q) ∧ Below V.heap.size V wr) (fun _ i _ => n - (intOf i).toNat)
  case atStart => exact ⟨0, [], _, by omega, rfl, by simp, by show _ = _; rw [List.drop_zero]; rfl, ⟨fun _ => Nat.le_refl _, fun p hp => by simp at hp⟩, World.ownsRow_nil _ _ _ _, hPG0, fun _ _ h => (by simp [Value.ownBlock] at h), hb0⟩
  case round =>
    obtain ⟨k, gs, vf, hk, rfl, hgl, hacc, hlle, hnv, hPG, hsep, hb⟩ := hrel
    by_cases hlt : k < n
    · obtain ⟨gb, o, rfl, hgb, hst⟩ := hs1 (by omega)
      obtain ⟨x, hx0⟩ : ∃ x, l[k]? = some x := ⟨_, List.getElem?_eq_getElem (by rw [hN.out]; exact hlt)⟩
      have hdr : l.drop k = x :: l.drop (k + 1) := by
        obtain ⟨h1, h2⟩ := List.getElem?_eq_some_iff.1 hx0
        rw [List.drop_eq_getElem_cons h1, h2]
      have hx : x.s.size ≤ 1000000000 := hzH.out x (List.mem_of_getElem? hx0)
      have mr : Mv (fun _ => False) V wr := Mv.below hb
      obtain ⟨p0, p1, p2, p3⟩ := (hst k x hx0).mv mr (fun h => h)
      rw [hdr, List.foldl_cons] at hacc
      have hkI : (k : Int) < (n : Int) := by omega
      obtain ⟨U1, hU1⟩ : ∃ U1, wr.alloc (.cells #[.string x.s, .string x.k, .string x.v, .int .i64 x.n] 44) = U1 := ⟨_, rfl⟩
      have mU1 : ∀ F, Mv F wr U1 := fun F => by rw [← hU1]; exact Mv.alloc _ _ _
      have x0 : U1.cell? ⟨wr.heap.size, 0, none⟩ = some (.string x.s) := by rw [← hU1]; exact cell_at rfl rfl
      have x1 : U1.cell? ⟨wr.heap.size, 1, none⟩ = some (.string x.k) := by rw [← hU1]; exact cell_at rfl rfl
      have x2 : U1.cell? ⟨wr.heap.size, 2, none⟩ = some (.string x.v) := by rw [← hU1]; exact cell_at rfl rfl
      have x3 : U1.cell? ⟨wr.heap.size, 3, none⟩ = some (.int .i64 x.n) := by rw [← hU1]; exact cell_at rfl rfl
      have hPG1 := hPG.mv (mU1 (fun _ => False)) (fun h => h) (fun _ _ _ h => h)
      have hlk := hPG1.lookup hx (zeroSl _)
      obtain ⟨ao, nn, cc, hv⟩ := own_shape (hPG1.row x.s)
      have hnn : Hid ((look gs x.s).length = nn) := (own_len (hv ▸ hPG1.row x.s)).symm
      rw [hv] at hlk
      have nown : ∀ q, (Value.slice ao nn cc).ownBlock = some q → V.heap.size + 1 ≤ q ∧ q < wr.heap.size := fun q e => (hPG.row x.s).lt q (by rw [hv]; exact e)
      have hbr := hb.size
      have hPlt := hPG.lt
      have hgsl : nn ≤ 1000000 := by have := hlle.out.1 x.s; rw [hnn.out] at this; omega
      have hlle2 : Hid ((∀ a, (look (grp gs x) a).length ≤ k + 1) ∧ ∀ p ∈ grp gs x, p.1.size ≤ 1000000000) := ⟨fun a => by rw [look_grp]; have := hlle.out.1 a; split <;> simp <;> omega, fun p hp => by
        rcases (grp_mem hPG.nam).1 hp with ⟨h, _⟩ | ⟨_, h⟩
        · rw [h]; exact hx
        · exact hlle.out.2 p h⟩
      clear hst hx0 hdr hs1
      by_cases hlk0 : nn = 0
      · have hlkH : Hid (nn = 0) := hlk0
        have hnnI : ((nn : Int) == 0) = true := by simp; omega
        clear hlk0
        have hab : Hid ((grp gs x).map Prod.fst = gs.map Prod.fst ++ [x.s]) := by
          rcases grp_names gs x with ⟨h, _⟩ | ⟨_, h⟩
          · obtain ⟨⟨p, ls⟩, hp, rfl⟩ := List.mem_map.1 h
            have h1 := look_mem hPG.nam hp
            have h2 := hnn.out
            rw [h1, hlkH.out] at h2
            exact absurd (List.length_eq_zero_iff.1 h2) (hPG.ne _ _ hp)
          · exact h
        have hlen2 : Hid ((grp gs x).length = gs.length + 1) := by show _ = _; rw [← nms_len, hab.out]; simp
        have hnm2 : Hid (nms (grp gs x) = nms gs ++ [.string x.s]) := by show _ = _; unfold nms; rw [hab.out]; simp
        have hr1 := (own_mv hnv.out (mU1 (fun _ => False)) (fun _ _ h => h)).alloc (.cells #[.string x.s] 9)
        have hU1s : U1.heap.size = wr.heap.size + 1 := by rw [← hU1]; simp
        have hU1H : Hid (U1.heap.size = wr.heap.size + 1) := hU1s
        clear hU1s
        go_wp2_with (first | rw [hU1] | (at_builtin; refine wpList_append_own_at _ rfl _ _ 38 rfl (V.heap.size + 1) 9 j0 (.string ⟨#[]⟩) 1 16 Tryd.underlying38 jinf jz0 jz1 jz2 rfl (by decide) _ _ _ rfl hr1 ⟨U1.heap.size, 0, none⟩ 1 1 [.string x.s] rfl rfl (row_news1 U1 _ _) (fun x hx => by simp at hx; subst hx; rfl) (by unfold maxLen; omega) (by omega) (by simp; have := hU1H.out; omega) ?_))
        intro nv' w2 hown' hgrow _ hat
        have mW2 : Mv (fun q => u3.ownBlock = some q) U1 w2 := (Mv.alloc _ _ _).grown hgrow (fun k e => .inl e)
        have nvlo : ∀ q, u3.ownBlock = some q → V.heap.size + 1 ≤ q ∧ q < wr.heap.size := fun q e => hnv.out.lt q e
        have hPG2 := hPG1.mv mW2 (fun e => by have := (nvlo _ e).1; omega) (fun a k e1 e2 => hsep.out a k e1 e2)
        have hsep2 : ∀ a q, (vf a).ownBlock = some q → nv'.ownBlock ≠ some q := fun a q e e2 => by
          rcases hat with h | h
          · rw [h] at e2; exact hsep.out a q e e2
          · rw [h] at e2
            have h3 := ((hPG1.row a).lt q e).2
            simp at e2; omega
        have nx : ¬ u3.ownBlock = some wr.heap.size := fun e => by have := (nvlo _ e).2; omega
        have y0 := mW2.cell nx x0
        have y1 := mW2.cell nx x1
        have y2 := mW2.cell nx x2
        have y3 := mW2.cell nx x3
        have hbW2 : Below V.heap.size V w2 := (hb.trans ((mU1 (fun _ => False)).toBelow (by omega) (fun _ _ h => h))).trans (mW2.toBelow (by have := hU1H.out; omega) (fun k hk e => by have := (nvlo k e).1; omega))
        obtain ⟨na, nc, rfl⟩ := ownsRow_succ hown'
        have hlkA : (Instr.lookup 98 (.map (some V.heap.size)) (.string x.s) false).run Tryd.prog w2.drew = .ok (.slice ao nn cc) w2.drew := by
          rw [← hv]; exact (hPG2.mv (Mv.drew (fun _ => False) _) (fun h => h) (fun _ _ _ h => h)).lookup hx (zeroSl _)
        have hlkB : (Instr.lookup 98 (.map (some V.heap.size)) (.string x.s) false).run Tryd.prog (w2.alloc (.cells #[.string x.s, .string x.k, .string x.v, .int .i64 x.n] 44)).drew = .ok (.slice ao nn cc) (w2.alloc (.cells #[.string x.s, .string x.k, .string x.v, .int .i64 x.n] 44)).drew := by
          rw [← hv]; exact (hPG2.mv ((Mv.alloc (fun _ => False) _ _).trans' (Mv.drew _ _)) (fun h => h) (fun _ _ _ h => h)).lookup hx (zeroSl _)
        have hrw : w2.ownsRow (V.heap.size + 1) 44 4 (.slice ao nn cc) nn (stsC (look gs x.s)) := by rw [← hv, ← hnn.out]; exact hPG2.row x.s
        have hbw : V.heap.size + 1 ≤ (w2.alloc (.cells #[.string x.s, .string x.k, .string x.v, .int .i64 x.n] 44)).drew.heap.size := by show _ ≤ (w2.alloc _).heap.size; rw [World.size_alloc]; have := hPG2.lt; omega
        have hyB := (Mv.alloc (fun _ => False) w2 (.cells #[.string x.s, .string x.k, .string x.v, .int .i64 x.n] 44)).trans' (Mv.drew _ _)
        have hB0 := hyB.cell (fun h => h) y0
        have hB1 := hyB.cell (fun h => h) y1
        have hB2 := hyB.cell (fun h => h) y2
        have hB3 := hyB.cell (fun h => h) y3
        clear hyB
        go_wp2_with fail
        go_region_law (refine step_append_lies _ (by rfl) _ _ _ (by rfl) (V.heap.size + 1) 44 i0 _ 4 56 Tryd.underlying23 hinf hz0 hz1 hz2 rfl (by omega) _ _ _ (by rfl) ((hrw.alloc _).drew) ⟨_, 0, none⟩ 1 1 [_, _, _, _] (by rfl) (by rfl) (World.news_of_block (cs := #[_, _, _, _]) (t := 44) (fr := (0, 0)) (heap_alloc_new _ _)) (by simp [Value.oneCell']) (by omega) (by unfold maxLen; omega) (by omega) hbw _ rfl ?_; intro g' cap'' w3 hown3 hgrow3 hat3 hlt3; obtain ⟨w4, hupd, hPG4, hg4⟩ := hPG2.step hx (by omega) ((Mv.alloc (fun _ => False) _ _).trans' (Mv.drew _ _)) (by rw [hv]; exact hgrow3) (by rw [hnn.out]; exact hown3) (by rw [hv]; exact hat3.imp (fun e => e.symm) (fun e => by rw [e]; rfl)); have hc3 := (((Mv.alloc _ _ _).trans' (Mv.drew _ _)).grown hgrow3 (fun k e => .inl e)).cell (E := fun q => (Value.slice ao nn cc).ownBlock = some q) (show ¬ (Value.slice ao nn cc).ownBlock = some wr.heap.size from fun e => by have := (nown _ e).2; omega) y0)
        all_goals
          obtain ⟨e1, e2, e3⟩ := part_end (cap'' := cap'') hv (by have := hPG2.lt; omega) hown' hsep2 (fun a q e => ((hPG2.row a).lt q e).1) hbW2 hgrow3 hat3 hg4
          go_wp2_with fail
          exact ⟨⟨k + 1, grp gs x, _, by omega, by go_num, by rw [← nms_len, hab.out]; simp; omega, hacc, hlle2, by show World.ownsRow _ _ _ _ _ _ _; rw [hnm2.out, hlen2.out]; exact e1, hPG4, e2, e3⟩, by simp [intOf]; omega⟩
      · have hnnI : ((nn : Int) == 0) = false := by simp; omega
        have hpr : Hid ((grp gs x).map Prod.fst = gs.map Prod.fst) := by
          rcases grp_names gs x with ⟨_, h⟩ | ⟨h, _⟩
          · exact h
          · exact absurd (by rw [← hnn.out, look_none h]; rfl) hlk0
        have hPG2 := hPG1
        have y0 := x0
        have y1 := x1
        have y2 := x2
        have y3 := x3
        have hlkA : (Instr.lookup 98 (.map (some V.heap.size)) (.string x.s) false).run Tryd.prog U1.drew = .ok (.slice ao nn cc) U1.drew := by
          rw [← hv]; exact (hPG2.mv (Mv.drew (fun _ => False) _) (fun h => h) (fun _ _ _ h => h)).lookup hx (zeroSl _)
        have hlkB : (Instr.lookup 98 (.map (some V.heap.size)) (.string x.s) false).run Tryd.prog (U1.alloc (.cells #[.string x.s, .string x.k, .string x.v, .int .i64 x.n] 44)).drew = .ok (.slice ao nn cc) (U1.alloc (.cells #[.string x.s, .string x.k, .string x.v, .int .i64 x.n] 44)).drew := by
          rw [← hv]; exact (hPG2.mv ((Mv.alloc (fun _ => False) _ _).trans' (Mv.drew _ _)) (fun h => h) (fun _ _ _ h => h)).lookup hx (zeroSl _)
        have hrw : U1.ownsRow (V.heap.size + 1) 44 4 (.slice ao nn cc) nn (stsC (look gs x.s)) := by rw [← hv, ← hnn.out]; exact hPG2.row x.s
        have hbw : V.heap.size + 1 ≤ (U1.alloc (.cells #[.string x.s, .string x.k, .string x.v, .int .i64 x.n] 44)).drew.heap.size := by show _ ≤ (U1.alloc _).heap.size; rw [World.size_alloc]; have := hPG2.lt; omega
        have hyB := (Mv.alloc (fun _ => False) U1 (.cells #[.string x.s, .string x.k, .string x.v, .int .i64 x.n] 44)).trans' (Mv.drew _ _)
        have hB0 := hyB.cell (fun h => h) y0
        have hB1 := hyB.cell (fun h => h) y1
        have hB2 := hyB.cell (fun h => h) y2
        have hB3 := hyB.cell (fun h => h) y3
        clear hyB
        go_wp2_with (rw [hU1])
        go_region_law (refine step_append_lies _ (by rfl) _ _ _ (by rfl) (V.heap.size + 1) 44 i0 _ 4 56 Tryd.underlying23 hinf hz0 hz1 hz2 rfl (by omega) _ _ _ (by rfl) ((hrw.alloc _).drew) ⟨_, 0, none⟩ 1 1 [_, _, _, _] (by rfl) (by rfl) (World.news_of_block (cs := #[_, _, _, _]) (t := 44) (fr := (0, 0)) (heap_alloc_new _ _)) (by simp [Value.oneCell']) (by omega) (by unfold maxLen; omega) (by omega) hbw _ rfl ?_; intro g' cap'' w3 hown3 hgrow3 hat3 hlt3; obtain ⟨w4, hupd, hPG4, hg4⟩ := hPG2.step hx (by omega) ((Mv.alloc (fun _ => False) _ _).trans' (Mv.drew _ _)) (by rw [hv]; exact hgrow3) (by rw [hnn.out]; exact hown3) (by rw [hv]; exact hat3.imp (fun e => e.symm) (fun e => by rw [e]; rfl)); have hc3 := (((Mv.alloc _ _ _).trans' (Mv.drew _ _)).grown hgrow3 (fun k e => .inl e)).cell (E := fun q => (Value.slice ao nn cc).ownBlock = some q) (show ¬ (Value.slice ao nn cc).ownBlock = some wr.heap.size from fun e => by have := (nown _ e).2; omega) y0)
        all_goals
          obtain ⟨e1, e2, e3⟩ := part_end (cap'' := cap'') hv (by have := hPG2.lt; omega) (own_mv hnv.out (mU1 (fun _ => False)) (fun _ _ h => h)) hsep.out (fun a q e => ((hPG2.row a).lt q e).1) (hb.trans ((mU1 (fun _ => False)).toBelow (by omega) (fun _ _ h => h))) hgrow3 hat3 hg4
          go_wp2_with fail
          exact ⟨⟨k + 1, grp gs x, _, by omega, by go_num, by rw [← nms_len, hpr.out]; rw [nms_len]; omega, hacc, hlle2, by show World.ownsRow _ _ _ _ _ _ _; unfold nms; rw [hpr.out, ← nms_len, hpr.out]; rw [nms_len]; exact e1, hPG4, e2, e3⟩, by simp [intOf]; omega⟩
    · obtain rfl : k = n := by omega
      have hgs : Hid (groups l = gs) := by
        have := hacc.out
        rw [List.drop_of_length_le (by rw [hN.out]; omega)] at this
        exact this
      rw [hgs.out] at h0
      have mr : ∀ F : Nat → Prop, Mv F V wr := fun F => Mv.below hb
      have hj0 : J gs E1 wr := hJ.keep _ _ _ _ h0 (mr _)
      have nE : ∀ q, V.heap.size ≤ q → ¬ E1 q := fun q hq h => by have := hlow q h; omega
      have hkI : ¬ ((k : Int) < (k : Int)) := by omega
      obtain ⟨na, ng, nc, rfl, hna, hnc⟩ := own_strs (by rw [nms_len]; exact hnv.out : wr.ownsRow (V.heap.size + 1) 9 1 _ (gs.map Prod.fst).length _)
      rw [nms_len] at hna ⊢
      obtain ⟨gn, hgn⟩ : ∃ gn, gs.length = gn := ⟨_, rfl⟩
      rw [hgn] at hna hgl ⊢
      have hG : Hid (gs.length = gn) := hgn
      have hsl : Hid (∀ p ∈ gs, SlIs E1 wr (vf p.1) p.2) := fun p hp => by
        have h1 := look_mem hPG.nam hp
        have h2 := hPG.row p.1
        rw [h1] at h2
        exact own_slis E1 (fun q hq _ => nE q (by omega)) h2
      have hncH : Hid (∀ (j : Nat) s, (gs.map Prod.fst)[j]? = some s → wr.cell? ⟨ng, j, none⟩ = some (.string s)) := hnc
      have hszH : Hid (∀ p ∈ gs, p.1.size ≤ 1000000000) := hlle.out.2
      clear hgn hnv hnc h0
      go_wp2_with fail
      refine (wpIn_wide (n := 5)).1 ?_
      gi_loopw [40] (fun i W2 => ∃ (q : Nat) (E2 : Nat → Prop), q ≤ gn ∧ i = .int .i64 q ∧ J (gs.drop q) E2 W2 ∧ Mv E1 wr W2 ∧ Gr E1 wr E2) (fun i _ => gn - (intOf i).toNat)
      case atStart => exact ⟨0, E1, by omega, rfl, by rw [List.drop_zero]; exact hj0, Mv.refl _ _, Gr.refl _ _⟩
      case round =>
        obtain ⟨q, E2, hq, rfl, hj, hm, hg2⟩ := hrel
        by_cases hlt2 : q < gn
        · obtain ⟨p, hp⟩ : ∃ p, gs[q]? = some p := ⟨_, List.getElem?_eq_getElem (by rw [hG.out]; exact hlt2)⟩
          have hdr : gs.drop q = p :: gs.drop (q + 1) := by
            obtain ⟨h1, h2⟩ := List.getElem?_eq_some_iff.1 hp
            rw [List.drop_eq_getElem_cons h1, h2]
          rw [hdr] at hj
          obtain ⟨rfl, hngb⟩ := hna (by omega)
          have hpm := List.mem_of_getElem? hp
          have cN := hm.cell (nE ng (by omega)) (hncH.out q p.1 (by rw [List.getElem?_map, hp]; rfl))
          rename_i W2 _
          have hPG2 := hPG.mv hm (nE _ (Nat.le_refl _)) (fun a k e => nE k (by have := ((hPG.row a).lt k e).1; omega))
          have hlk := hPG2.lookup (hszH.out p hpm) (zeroSl _)
          have hsl2 := (hsl.out p hpm).mv hm hg2
          have hsl3 := hsl2
          obtain ⟨sa, sc, hsv, _⟩ := hsl3
          rw [hsv] at hlk hsl2
          obtain ⟨fn, tmps, assign, body, hy, hR⟩ := hY p _ E2 _ _ hj ⟨_, rfl, hsl2⟩
          have hqI : (q : Int) < (gn : Int) := by omega
          clear hsl2 hPG2 hdr hp hsv
          gi_wp2
          refine (wide_round' hR).mono ?_
          rintro e W3 ⟨m3, (⟨rfl, E3, g3, hj3⟩ | ⟨rfl, E3, g3, hj3⟩)⟩
          · gi_wp2
            exact ⟨⟨q + 1, E3, by omega, by go_num, hj3, hm.trans hg2 m3, hg2.trans hm.size g3⟩, by simp [intOf]; omega⟩
          · gi_wp2
            refine bodyPost_ret (results_none rfl _ _ _) rfl ?_
            exact ⟨⟨_, rfl⟩, (mr _).trans' (hm.trans hg2 m3), .inr ⟨E3, (hg2.trans hm.size g3).mono hb.size, hj3⟩⟩
        · obtain rfl : q = gn := by omega
          rw [List.drop_of_length_le (by rw [hG.out]; omega)] at hj
          have hqI : ¬ ((q : Int) < (q : Int)) := by omega
          gi_wp2
          go_end0
          exact ⟨⟨_, rfl⟩, (mr _).trans' hm, .inl ⟨E2, hg2.mono hb.size, hj⟩⟩
end Go.Proofs.YtiinhfbfciccnaaDoor
/- The contract of unitfile.Print. -/
namespace Go.Proofs.YtiinhfbfciccnaaDoor
open Go.RowKit Go.Shelf Lin
attribute [local go_sem] Oper.semAt_some
/-- A setting's line; a section's lines; all lines. -/
def oneL (x : St) : L := x.k.data.toList ++ [61] ++ x.v.data.toList ++ [10]
def secL (g : ByteArray × List St) : L := [91] ++ g.1.data.toList ++ [93, 10] ++ g.2.flatMap oneL
def prt (gs : Gs) : L := gs.flatMap secL
def PI (b : Nat) (T : L) (rest : Gs) (E : Nat → Prop) (W : World) : Prop := ∃ v x, ((∀ k, E k ↔ Ow b v k) ∧ Hid (x ++ prt rest = T)) ∧ Bld b v x W
theorem PI.ter (b B : Nat) (T : L) : Ter B (PI b T) := by
  refine ⟨?_, ?_⟩
  · rintro s E W V ⟨v, x, ⟨hE, h⟩, hb⟩ m
    exact ⟨v, x, ⟨hE, h⟩, hb.mv m (fun k hk h => h.1 ((hE k).2 hk))⟩
  · rintro s E W ⟨v, x, ⟨hE, h⟩, hb⟩ k hk
    exact hb.lo k ((hE k).1 hk)
theorem SlIs.twin {E : Nat → Prop} {A B : World} {l : Nat} {v : Value} {ls : List St} (h : SlIs E A v ls) (t : Twin l A B) (hl : ∃ r, A.heap[l]? = some (.loop r)) : SlIs E B v ls := by
  obtain ⟨a, c, hv, h1⟩ := h
  refine ⟨a, c, hv, fun h0 => ?_⟩
  obtain ⟨g, o, e1, e2, e3⟩ := h1 h0
  have hne : ¬ g = l := fun e => by
    have h2 := (e3 0 _ (List.getElem?_eq_getElem h0)).c0
    obtain ⟨r, hr⟩ := hl
    unfold World.cell? at h2
    rw [e, hr] at h2
    cases h2
  exact ⟨g, o, e1, e2, fun j x hj => (e3 j x hj).mv t.mv hne⟩
set_option maxHeartbeats 1000000 in
theorem parts_any (a : Option Addr) (n c : Nat) (w : World) : Calls Tryd.prog 29 #[.slice a n c] w fun e w' => e = .returned (.func (.func 42) #[] #[.pointer (some ⟨w.heap.size, 0, none⟩)]) ∧ w' = w.alloc (.cells #[.slice a n c] 23) := by
  go_enter Tryd.func29, Tryd.ntmps29
  go_wp2
  go_ret
  exact ⟨rfl, rfl⟩
theorem flat_ge : ∀ ls : List St, ls.length ≤ (ls.flatMap oneL).length
  | [] => by simp
  | x :: r => by
    have := flat_ge r
    simp only [List.flatMap_cons, List.length_append, List.length_cons, oneL, List.length_nil]; omega
theorem take_snocS {l : List St} {k : Nat} {x : St} (h : l[k]? = some x) : l.take (k + 1) = l.take k ++ [x] := by rw [List.take_add_one, h]; rfl
set_option maxRecDepth 100000 in
set_option maxHeartbeats 8000000 in
theorem print_any (v : Value) (l : List St) (w : World) (T : L) (hs : SlIs (fun _ => False) w v l) (hl : l.length ≤ 1000000) (hz : ∀ x ∈ l, x.s.size ≤ 1000000000) (hT : prt (groups l) = T) (hTl : T.length ≤ 3000000) :
    Calls Tryd.prog 14 #[.agg #[v]] w fun e w' => e = .returned (.string ⟨T.toArray⟩) ∧ Below w.heap.size w w' := by
  have hTH : Hid (prt (groups l) = T) := hT
  obtain ⟨a, c, rfl, hs1⟩ := hs
  have hsl0 : SlIs (fun _ => False) w (.slice a l.length c) l := ⟨a, c, rfl, hs1⟩
  obtain ⟨n, hn⟩ : ∃ n, l.length = n := ⟨_, rfl⟩
  rw [hn] at hsl0 ⊢
  have hN : Hid (l.length = n) := hn
  obtain ⟨W0, hW0⟩ : ∃ W0, (w.alloc (.cells #[.slice a n c] 25)).alloc (.cells #[.pointer none, .slice none 0 0] 77) = W0 := ⟨_, rfl⟩
  have hs0 : W0.heap.size = w.heap.size + 2 := by rw [← hW0]; simp
  have m0 : ∀ F : Nat → Prop, Mv F w W0 := fun F => by rw [← hW0]; exact (Mv.alloc _ _ _).trans' (Mv.alloc _ _ _)
  have hB0 : Bld (w.heap.size + 1) (.slice none 0 0) [] W0 := by
    have := Bld.new (w.alloc (.cells #[.slice a n c] 25))
    rw [hW0] at this
    simpa using this
  have q0 : W0.cell? ⟨w.heap.size, 0, none⟩ = some (.slice a n c) := by rw [← hW0]; exact (Mv.alloc (fun _ => False) _ _).cell (fun h => h) (cell_at rfl rfl)
  clear hT hs1 hn
  refine (callsIn_wide (n := 5)).1 ?_
  refine callsIn_of_wp_marks Tryd.func14 rfl trivial ?_ rfl
  simp only [Tryd.ntmps14, List.size_toArray, List.length_cons, List.length_nil, Nat.reduceAdd, Nat.reduceSub, Array.replicate_succ, Array.replicate_zero, List.push_toArray, List.append_toArray, List.nil_append, List.cons_append]
  gi_wp2_with (rw [hW0])
  clear hW0
  refine ⟨trivial, (callsIn_wide.2 (parts_any a n c W0)).mono ?_⟩
  rintro e W1 ⟨rfl, hW1⟩
  have m1 : ∀ F : Nat → Prop, Mv F W0 W1 := fun F => by rw [hW1]; exact Mv.alloc _ _ _
  have hs1 : W1.heap.size = w.heap.size + 3 := by rw [hW1]; simp [hs0]
  have cs1 : W1.cell? ⟨w.heap.size + 2, 0, none⟩ = some (.slice a n c) := by rw [hW1, ← hs0]; exact cell_at rfl rfl
  clear hW1
  obtain ⟨E, hE⟩ : ∃ E : Nat → Prop, ∀ k, E k ↔ Ow (w.heap.size + 1) (.slice none 0 0) k := ⟨_, fun _ => Iff.rfl⟩
  have nE : ∀ k, k ≠ w.heap.size + 1 → ¬ E k := fun k hk h => by
    rcases (hE k).1 h with q | q
    · exact hk q
    · simp [Value.ownBlock] at q
  have hslE : SlIs E W1 (.slice a n c) l := by
    obtain ⟨a', c', hv, h1⟩ := hsl0
    refine SlIs.mv (E := E) (W := w) ⟨a', c', hv, fun h0 => ?_⟩ ((m0 _).trans' (m1 _)) (Gr.refl _ _)
    obtain ⟨g, o, e1, _, e2⟩ := h1 h0
    have hgl : g < w.heap.size := cell_lt (e2 0 _ (List.getElem?_eq_getElem h0)).c0
    exact ⟨g, o, e1, nE _ (by omega), e2⟩
  have hrow := parts1_row l (w.heap.size + 2) (.slice a n c) E W1 cs1 (nE _ (by omega)) hslE hl hz
  have tI : Ter W1.heap.size (PI (w.heap.size + 1) T) := PI.ter _ _ _
  have h0I : PI (w.heap.size + 1) T (groups l) E W1 := ⟨_, [], ⟨hE, hTH⟩, hB0.mv (m1 (fun _ => False)) (fun _ _ h => h)⟩
  gi_wp2_with fail
  refine loop_outR (gf := 42) (lb := #[.pointer (some ⟨w.heap.size + 2, 0, none⟩)]) rfl (enters_of Tryd.func42 (by kernel_rfl) rfl) hrow GrpR.size GrpR.anti (PI (w.heap.size + 1) T) MX tI (MX.ter _) h0I ?round ?done ?stop
  case stop => rintro D c' E2 U _ _ _ _ _ h; exact h.elim
  case round =>
    rintro l1 hl1 ⟨nm, ls⟩ rest E2 U args hi ⟨sv, rfl, hsv⟩ hm hgr hEl hrec
    simp only at hsv
    obtain ⟨a2, c2, rfl, _⟩ := id hsv
    gi_wp2
    refine ⟨⟨Mv.refl _ _, trivial⟩, fun U2 tw => ?_⟩
    obtain ⟨hi2, hm2⟩ := tw.go tI hi (Mv.refl _ _) hm (Nat.le_refl _) (by omega) hEl
    have hsl2 := hsv.twin tw hrec
    obtain ⟨v, x, ⟨hE2, hx⟩, hB⟩ := hi2
    have hxl : x.length + (secL (nm, ls)).length ≤ 3000000 := by
      have := congrArg List.length hx.out
      simp only [prt, List.flatMap_cons, List.length_append] at this
      omega
    have hsecl : (secL (nm, ls)).length = nm.size + 3 + (ls.flatMap oneL).length := by
      simp only [secL, List.length_append, List.length_cons, List.length_nil, size_list]; omega
    obtain ⟨ln, hln⟩ : ∃ ln, ls.length = ln := ⟨_, rfl⟩
    have hLN : Hid (ls.length = ln) := hln
    have hlnb : ln ≤ 3000000 := by have := flat_ge ls; omega
    obtain ⟨a3, c3, hv3, hst⟩ := hsl2
    simp only [Value.slice.injEq] at hv3
    obtain ⟨rfl, -, rfl⟩ := hv3
    have hstH : Hid (0 < ls.length → ∃ g o, a2 = some ⟨g, o, none⟩ ∧ ¬ E2 g ∧ StAt U2 g o ls) := hst
    obtain ⟨S1, hS1⟩ : ∃ S1 : ByteArray, (⟨#[91]⟩ ++ nm ++ ⟨#[93, 10]⟩ : ByteArray) = S1 := ⟨_, rfl⟩
    have hS1l : S1.data.toList = [91] ++ nm.data.toList ++ [93, 10] := by rw [← hS1]; simp
    have hS1z : S1.size = nm.size + 3 := by rw [← size_list, hS1l]; simp only [List.length_append, List.length_cons, List.length_nil, size_list]; omega
    have hw1 := writeString_mv (w.heap.size + 1) v x S1 U2 hB (by omega) (by omega)
    rw [hS1l] at hw1
    have hw1H : Hid (Calls Tryd.prog 30 #[.pointer (some ⟨w.heap.size + 1, 0, none⟩), .string S1] U2 fun e w' => (∃ r, e = .returned r) ∧ Wrote (w.heap.size + 1) v (x ++ ([91] ++ nm.data.toList ++ [93, 10])) U2 w') := hw1
    have hnmz : nm.size ≤ 3000000 := by omega
    have hone : (ls.flatMap oneL).length + x.length + nm.size + 3 ≤ 3000000 := by omega
    rw [hln]
    clear hi hm tw hw1 hsv hrec hst hln hS1l hS1z hxl hsecl
    gi_wp2_with (rw [hS1])
    refine ⟨trivial, (CallsIn.inRound l1 (callsIn_wide.2 hw1H.out)).mono ?_⟩
    rintro e U3 ⟨⟨r, rfl⟩, v1, hB1, mw1, hn1⟩
    clear hw1H
    have hE2o : ∀ k, Ow (w.heap.size + 1) v1 k → E2 k ∨ U2.heap.size ≤ k := fun k hk => by
      rcases hk with h | h
      · exact .inl ((hE2 k).2 (.inl h))
      · rcases hn1 k h with q | q
        · exact .inl ((hE2 k).2 (.inr q))
        · exact .inr q
    have mE3 : Mv E2 U2 U3 := mw1.mono (fun k _ h => (hE2 k).2 h)
    dsimp only
    gi_wp2_with fail
    gi_loopw [19] (fun i wr => ∃ (k : Nat) (v' : Value) (x' : L), k ≤ ln ∧ i = .int .i64 k ∧ Hid (x' = x ++ ([91] ++ nm.data.toList ++ [93, 10]) ++ (ls.take k).flatMap oneL) ∧ Bld (w.heap.size + 1) v' x' wr ∧ Mv E2 U2 wr ∧ Hid (∀ q, Ow (w.heap.size + 1) v' q → E2 q ∨ U2.heap.size ≤ q)) (fun i _ => ln - (intOf i).toNat)
    case atStart => exact ⟨0, v1, _, by omega, rfl, by show _ = _; simp, hB1, mE3, hE2o⟩
    case round =>
      obtain ⟨k, v', x', hk, rfl, hx', hB', mr, hEo⟩ := hrel
      by_cases hlt : k < ln
      · obtain ⟨y, hy⟩ : ∃ y, ls[k]? = some y := ⟨_, List.getElem?_eq_getElem (by rw [hLN.out]; exact hlt)⟩
        obtain ⟨g, o, rfl, hg, hst⟩ := hstH.out (by rw [hLN.out]; omega)
        obtain ⟨p0, p1, p2, p3⟩ := (hst k y hy).mv mr hg
        have hts := take_snocS hy
        obtain ⟨S2, hS2⟩ : ∃ S2 : ByteArray, (y.k ++ ⟨#[61]⟩ ++ y.v ++ ⟨#[10]⟩ : ByteArray) = S2 := ⟨_, rfl⟩
        have hS2l : S2.data.toList = oneL y := by rw [← hS2]; simp [oneL]
        have hx2 : Hid (x' ++ oneL y = x ++ ([91] ++ nm.data.toList ++ [93, 10]) ++ (ls.take (k + 1)).flatMap oneL) := by
          show _ = _
          rw [hx'.out, hts]; simp
        have hlen : (ls.take (k + 1)).flatMap oneL = (ls.take k).flatMap oneL ++ oneL y := by rw [hts]; simp
        have hle : ((ls.take (k + 1)).flatMap oneL).length ≤ (ls.flatMap oneL).length := by
          conv => rhs; rw [← List.take_append_drop (k + 1) ls]
          rw [List.flatMap_append, List.length_append]; omega
        have hx'l : x'.length + (oneL y).length ≤ 3000000 := by
          have := congrArg List.length hx2.out
          simp only [List.length_append, List.length_cons, List.length_nil, size_list] at this hone hle ⊢
          omega
        have hoy : (oneL y).length = S2.size := by rw [← hS2l, size_list]
        have hyk : y.k.size + y.v.size ≤ 3000000 := by
          have : (oneL y).length = y.k.size + y.v.size + 2 := by simp only [oneL, List.length_append, List.length_cons, List.length_nil, size_list]; omega
          omega
        obtain ⟨U4, hU4⟩ : ∃ U4, wr.alloc (.cells #[.string y.s, .string y.k, .string y.v, .int .i64 y.n] 44) = U4 := ⟨_, rfl⟩
        have mU4 : ∀ F, Mv F wr U4 := fun F => by rw [← hU4]; exact Mv.alloc _ _ _
        have z1 : U4.cell? ⟨wr.heap.size, 1, none⟩ = some (.string y.k) := by rw [← hU4]; exact cell_at rfl rfl
        have z2 : U4.cell? ⟨wr.heap.size, 2, none⟩ = some (.string y.v) := by rw [← hU4]; exact cell_at rfl rfl
        have hw2 := writeString_mv (w.heap.size + 1) v' x' S2 U4 (hB'.mv (mU4 (fun _ => False)) (fun _ _ h => h)) (by omega) (by omega)
        rw [hS2l] at hw2
        have hw2H : Hid (Calls Tryd.prog 30 #[.pointer (some ⟨w.heap.size + 1, 0, none⟩), .string S2] U4 fun e w' => (∃ r, e = .returned r) ∧ Wrote (w.heap.size + 1) v' (x' ++ oneL y) U4 w') := hw2
        have hkI : (k : Int) < (ln : Int) := by omega
        clear hw2 hst hy hts hlen hle hx'l hoy hS2l
        gi_wp2_with (first | rw [hU4] | rw [hS2])
        refine ⟨trivial, (CallsIn.inRound l1 (callsIn_wide.2 hw2H.out)).mono ?_⟩
        rintro e U5 ⟨⟨r', rfl⟩, v2, hB2, mw2, hn2⟩
        dsimp only
        gi_wp2_with fail
        have m5 : Mv E2 U2 U5 := (mr.trans' (mU4 _)).trans (E' := Ow (w.heap.size + 1) v') (fun q hq => (hEo.out q hq)) mw2
        refine ⟨⟨k + 1, v2, _, by omega, by go_num, hx2, hB2, m5, fun q hq => ?_⟩, by simp [intOf]; omega⟩
        rcases hq with h | h
        · exact hEo.out q (.inl h)
        · rcases hn2 q h with h | h
          · exact hEo.out q (.inr h)
          · right
            have := mr.size; have := (mU4 (fun _ => False)).size; omega
      · obtain rfl : k = ln := by omega
        have hkI : ¬ ((k : Int) < (k : Int)) := by omega
        have hx3 : Hid (x' ++ prt rest = T) := by
          show _ = _
          rw [hx'.out, ← hx.out, List.take_of_length_le (by rw [hLN.out]; omega)]
          simp [prt, secL]
        gi_wp2_with fail
        exact ⟨mr, _, hEo.out, v', x', ⟨fun _ => Iff.rfl, hx3⟩, hB'⟩
  case done =>
    rintro D E2 U hD hK hnD hm hgr ⟨v, x, ⟨hE2, hx⟩, hB⟩
    have hxT : Hid (x = T) := by show _ = _; have := hx.out; simpa [prt] using this
    have hstr := string_mv (w.heap.size + 1) v x U hB (by rw [hxT.out]; omega)
    have nD : ¬ Ow (w.heap.size + 1) v D := fun h => hnD ((hE2 D).2 h)
    have hlo : ∀ k, Ow (w.heap.size + 1) v k → w.heap.size ≤ k := fun k hk => by
      rcases hgr k ((hE2 k).2 hk) with h | h
      · rcases (hE k).1 h with q | q
        · omega
        · simp [Value.ownBlock] at q
      · omega
    have hbU : Below w.heap.size w U := (((m0 (fun _ => False)).trans' (m1 _)).toBelow (Nat.le_refl _) (fun _ _ h => h)).trans (hm.toBelow (by omega) (fun k hk h => nE k (by omega) h))
    rw [hxT.out] at hstr
    have hstrH : Hid (Calls Tryd.prog 31 #[.pointer (some ⟨w.heap.size + 1, 0, none⟩)] U fun e w' => e = .returned (.string ⟨T.toArray⟩) ∧ Mv (Ow (w.heap.size + 1) v) U w' ∧ w'.heap[w.heap.size + 1]? = U.heap[w.heap.size + 1]?) := hstr
    clear hstr
    gi_wp2_with fail
    refine ⟨trivial, (callsIn_wide.2 hstrH.out).mono ?_⟩
    rintro e U2 ⟨rfl, m2, _⟩
    dsimp only
    have hK2 : U2.heap[D]? = some (.deferred (some [])) := (m2.block D (lt_of_heap hK) nD).trans hK
    gi_wp2_with fail
    refine ⟨by simp, .inl ⟨_, _, rfl, run_takeDeferred hK2, ?_⟩⟩
    have mP : Mv (fun k => k = D) U2 (U2.putObj D (.deferred none)) := Mv.put (E := fun k => k = D) rfl _
    refine ⟨.string ⟨T.toArray⟩, by simp [results, Tryd.results14, go_sem], rfl, ?_⟩
    exact (hbU.trans (m2.toBelow hbU.size (fun k hk h => by have := hlo k h; omega))).trans (mP.toBelow (by have := hbU.size; have := m2.size; omega) (fun k hk e => by omega))
end Go.Proofs.YtiinhfbfciccnaaDoor
