import Derived.Test.YtedgnigogkmgkaaGreatDoorZ0
import Derived.Deep.RegionHeld
import Derived.Test.YtedgnigogkmgkaaGreatDoorBac
import Derived.Test.YtedgnigogkmgkaaGreatDoorGL
/- Rows that read what is left out of memory, some elements of which are passed over: the law of a loop over such a row. -/
namespace Go.Proofs.YtedgnigogkmgkaaGreatDoor
open Go.RowKit Go.Shelf
/-- The taker of a row: it takes x, and goes on or not. -/
def YiS (P : Program) {α : Type} (l : Nat) (enc : α → Array Value) (sk : α → Bool) (J : List α → (Nat → Prop) → World → Prop) (Jx : Unit → (Nat → Prop) → World → Prop) : Prop :=
  ∀ x rest E W, sk x = false → J (x :: rest) E W → YieldAt Fence.wide 3 P l (enc x) W fun e V => Mv E W V ∧
    ((e = .returned (.bool true) ∧ ∃ E', Gr E W E' ∧ J rest E' V) ∨ (e = .returned (.bool false) ∧ ∃ E', Gr E W E' ∧ Jx () E' V))
/-- Function g with what it has captured is the row xs without what is passed over, for all takers that keep L of what is left. -/
def RowS (P : Program) {α : Type} (g : Nat) (lb : Array Value) (enc : α → Array Value) (sk : α → Bool) (L : List α → World → Prop) (xs : List α) (E : Nat → Prop) (W : World) : Prop :=
  ∀ (l : Nat) (J : List α → (Nat → Prop) → World → Prop) (Jx : Unit → (Nat → Prop) → World → Prop) (E1 : Nat → Prop) (V : World),
    Mv E W V → Gr E W E1 → Ter V.heap.size J → Ter V.heap.size Jx → (∀ s E W, J s E W → L s W) → (∀ x rest E W, sk x = true → J (x :: rest) E W → J rest E W) → YiS P l enc sk J Jx → J xs E1 V →
    Calls P g (#[.func (.yield l) #[] #[]] ++ lb) V (Went J Jx E1 V)
/-- What one round asks of its code. -/
def RoundOkS (P : Program) {α : Type} (ps : Array Tmp) (assign body : Code) (enc : α → Array Value) (sk : α → Bool) (I : List α → (Nat → Prop) → World → Prop) (Ix : Code → (Nat → Prop) → World → Prop) (tmps : Array Value) (E0 : Nat → Prop) (w : World) (l : Nat) : Prop :=
  ∀ x rest E W, sk x = false → I (x :: rest) E W → Mv E0 w W → Gr E0 w E → ¬ E l → (∃ r, W.heap[l]? = some (.loop r)) →
    assign.wpIn (Fence.wide.inRound l) 3 P (Exit.then (fun a₁ W1 => (Mv E W W1 ∧ W1.heap[l]? = W.heap[l]?) ∧ ∀ W2, Twin l W1 W2 → body.wpIn (Fence.wide.inRound l) 3 P (roundX I Ix rest E W2) a₁ W2) (fun _ _ _ => False))
      { tmps := (ps.zip (enc x)).foldl (fun t (p, v) => t.setIfInBounds p v) tmps, defers := [] } W
theorem yi_of_roundS {P : Program} {α : Type} {ps : Array Tmp} {assign body : Code} {enc : α → Array Value} {sk : α → Bool} {I : List α → (Nat → Prop) → World → Prop} {Ix : Code → (Nat → Prop) → World → Prop} {tmps : Array Value} {l fn D : Nat}
    {B : Nat} {E00 : Nat → Prop} {w : World} (hl0 : w.heap.size ≤ l) (hBl : B ≤ l) (hI : Ter B I) (hIx : Ter B Ix) (hps : ∀ x, (enc x).size = ps.size) (hr : RoundOkS P ps assign body enc sk I Ix tmps E00 w l) :
    YiS P l enc sk
      (fun rest E1 W => ∃ E, (∀ k, E1 k ↔ (E k ∨ k = l)) ∧ ¬ E l ∧ (I rest E W ∧ Mv E00 w W ∧ Gr E00 w E) ∧ W.heap[l]? = some (.loop { state := .ready, pending := none, fn := fn, tmps := tmps, params := ps, assign := assign, body := body, defers := D }))
      (fun _ E1 W => ∃ E c, (∀ k, E1 k ↔ (E k ∨ k = l)) ∧ ¬ E l ∧ (Ix c E W ∧ Mv E00 w W ∧ Gr E00 w E) ∧ W.heap[l]? = some (.loop { state := .done, pending := some c, fn := fn, tmps := tmps, params := ps, assign := assign, body := body, defers := D })) := by
  rintro x rest E1 W hx ⟨E, hE, hEl, ⟨hi, hmw, hgw⟩, hl⟩
  obtain ⟨rec, hrec⟩ : ∃ rec : LoopState → Option Code → Loop, rec = fun st pe => { state := st, pending := pe, fn := fn, tmps := tmps, params := ps, assign := assign, body := body, defers := D } := ⟨_, rfl⟩
  have hlr : W.heap[l]? = some (.loop (rec .ready none)) := by rw [hrec]; exact hl
  have hy := run_yield (P := P) (args := enc x) hl (hps x)
  refine ⟨fn, _, assign, body, hy, roundIn_of_wpIn trivial ?_⟩
  refine wpIn_mono (hr x rest E W hx hi hmw hgw hEl ⟨_, hl⟩) ?_
  intro e a1 W1 he
  cases e with
  | normal =>
    obtain ⟨⟨m1, hk1⟩, hb⟩ := he
    have hl1 := hk1.trans hlr
    have hlt : l < W1.heap.size := (Array.getElem?_eq_some_iff.1 hl1).1
    have hltW : l < W.heap.size := (Array.getElem?_eq_some_iff.1 hl).1
    refine ⟨_, run_beginRound hl1 (by rw [hrec]), ?_⟩
    have hl2 : (W1.putObj l (.loop { rec .ready none with state := .busy })).heap[l]? = some (.loop { rec .ready none with state := .busy }) := World.putObj_heap_same hlt
    have tw : Twin l W1 (W1.putObj l (.loop { rec .ready none with state := .busy })) := ⟨rfl, rfl, rfl, by simp, fun k hk => World.putObj_heap_other hk, ⟨_, hl2⟩⟩
    have m1' : Mv E1 W W1 := m1.mono (fun k _ h => (hE k).2 (.inl h))
    have m2 : Mv E1 W (W1.putObj l (.loop { rec .ready none with state := .busy })) := m1'.trans' (.put ((hE l).2 (.inr rfl)) _)
    refine wpIn_mono (hb _ tw) ?_
    revert hl2 m2
    generalize hW2 : W1.putObj l (.loop { rec .ready none with state := .busy }) = W2
    intro hl2 m2
    have hmw2 : Mv E00 w W2 := by rw [← hW2]; exact (hmw.trans hgw m1).put_new hl0 _
    have fin : ∀ (jump : Option Code) (W3 : World), Mv E W2 W3 → (Instr.endRound l jump).run P W3 = .ok (.bool jump.isNone) (W3.putObj l (.loop (rec (if jump.isNone then .ready else .done) jump))) ∧
        (W3.putObj l (.loop (rec (if jump.isNone then .ready else .done) jump))).heap[l]? = some (.loop (rec (if jump.isNone then .ready else .done) jump)) ∧ Mv E1 W (W3.putObj l (.loop (rec (if jump.isNone then .ready else .done) jump))) ∧ Mv E00 w (W3.putObj l (.loop (rec (if jump.isNone then .ready else .done) jump))) := by
      intro jump W3 m3
      have hl3 := (m3.block l (Array.getElem?_eq_some_iff.1 hl2).1 hEl).trans hl2
      have := run_endRound (P := P) jump hl3
      rw [hrec] at this ⊢
      exact ⟨this, World.putObj_heap_same (Array.getElem?_eq_some_iff.1 hl3).1, (m2.trans' (m3.mono (fun k _ h => (hE k).2 (.inl h)))).trans' (.put ((hE l).2 (.inr rfl)) _), ((hmw2.trans hgw m3).put_new hl0 _)⟩
    have grow : ∀ (E' : Nat → Prop) (V : World), Gr E W2 E' → Gr E1 W (fun k => (E' k ∧ k ≠ l) ∨ k = l) := by
      intro E' V g k hk
      rcases hk with ⟨hk, hne⟩ | rfl
      · rcases g k hk with h | h
        · exact .inl ((hE k).2 (.inl h))
        · exact .inr (Nat.le_trans m2.size h)
      · exact .inl ((hE k).2 (.inr rfl))
    have nel : ∀ (E' : Nat → Prop), Gr E W2 E' → ∀ k, E' k → k ≠ l := by
      intro E' g k hk e
      subst e
      rcases g k hk with h | h
      · exact hEl h
      · have := (Array.getElem?_eq_some_iff.1 hl2).1; omega
    have ggw : ∀ (E' : Nat → Prop), Gr E W2 E' → Gr E00 w E' := fun E' g => hgw.trans (Nat.le_trans hmw.size (by rw [← hW2]; simpa using m1.size)) g
    intro e3 a3 W3 hp
    cases e3 with
    | normal =>
      obtain ⟨m3, E', g3, hi3⟩ := hp
      obtain ⟨r3, hl4, m4, m5⟩ := fin none W3 m3
      refine ⟨_, _, r3, m4, .inl ⟨rfl, _, grow E' W3 g3, E', fun k => ?_, fun h => nel E' g3 l h rfl, ⟨hI.keep _ _ _ _ hi3 (.put ⟨fun h => nel E' g3 l h rfl, hBl⟩ _), m5, ggw E' g3⟩, by rw [hl4, hrec]; rfl⟩⟩
      exact ⟨fun h => h.imp And.left id, fun h => h.imp (fun h => ⟨h, nel E' g3 k h⟩) id⟩
    | ret =>
      obtain ⟨m3, E', g3, hi3⟩ := hp
      obtain ⟨r3, hl4, m4, m5⟩ := fin (some .ret) W3 m3
      refine ⟨_, _, r3, m4, .inr ⟨rfl, _, grow E' W3 g3, E', _, fun k => ?_, fun h => nel E' g3 l h rfl, ⟨hIx.keep _ _ _ _ hi3 (.put ⟨fun h => nel E' g3 l h rfl, hBl⟩ _), m5, ggw E' g3⟩, by rw [hl4, hrec]; rfl⟩⟩
      exact ⟨fun h => h.imp And.left id, fun h => h.imp (fun h => ⟨h, nel E' g3 k h⟩) id⟩
    | exit id' =>
      obtain ⟨m3, E', g3, hi3⟩ := hp
      obtain ⟨r3, hl4, m4, m5⟩ := fin (some (.exit id')) W3 m3
      refine ⟨_, _, r3, m4, .inr ⟨rfl, _, grow E' W3 g3, E', _, fun k => ?_, fun h => nel E' g3 l h rfl, ⟨hIx.keep _ _ _ _ hi3 (.put ⟨fun h => nel E' g3 l h rfl, hBl⟩ _), m5, ggw E' g3⟩, by rw [hl4, hrec]; rfl⟩⟩
      exact ⟨fun h => h.imp And.left id, fun h => h.imp (fun h => ⟨h, nel E' g3 k h⟩) id⟩
    | goto t =>
      obtain ⟨m3, E', g3, hi3⟩ := hp
      obtain ⟨r3, hl4, m4, m5⟩ := fin (some (.goto t)) W3 m3
      refine ⟨_, _, r3, m4, .inr ⟨rfl, _, grow E' W3 g3, E', _, fun k => ?_, fun h => nel E' g3 l h rfl, ⟨hIx.keep _ _ _ _ hi3 (.put ⟨fun h => nel E' g3 l h rfl, hBl⟩ _), m5, ggw E' g3⟩, by rw [hl4, hrec]; rfl⟩⟩
      exact ⟨fun h => h.imp And.left id, fun h => h.imp (fun h => ⟨h, nel E' g3 k h⟩) id⟩
    | panic ch => exact hp.elim
    | outgrown => exact hp.elim
  | ret => exact he.elim
  | exit _ => exact he.elim
  | goto _ => exact he.elim
  | panic _ => exact he.elim
  | outgrown => exact he.elim
/-- A loop over a row, outside of all rounds. -/
theorem loop_outS {P : Program} {α : Type} {n : Nat} {g : Operand} {ps : Array Tmp} {assign body : Code} {Q : Exit → Act → World → Prop} {a : Act} {w : World} {gf : Nat} {lb : Array Value}
    (hg : a.eval g = .func (.func gf) #[] lb) (eg : ∀ args w, (callFunc gf args).run P w = .ok (.enter gf args) w) {enc : α → Array Value} {sk : α → Bool} {L : List α → World → Prop} {xs : List α} {E : Nat → Prop}
    (hrow : RowS P gf lb enc sk L xs E w) (hps : ∀ x, (enc x).size = ps.size) (I : List α → (Nat → Prop) → World → Prop) (Ix : Code → (Nat → Prop) → World → Prop) (hI : Ter w.heap.size I) (hIx : Ter w.heap.size Ix) (hL : ∀ s E W, I s E W → L s W) (hsk : ∀ x rest E W, sk x = true → I (x :: rest) E W → I rest E W) (h0 : I xs E w)
    (hround : ∀ l, w.heap.size ≤ l → RoundOkS P ps assign body enc sk I Ix a.tmps E w l)
    (hdone : ∀ D E' W, w.heap.size ≤ D → W.heap[D]? = some (.deferred (some [])) → ¬ E' D → Mv E w W → Gr E w E' → I [] E' W → Q .normal { a with defers := { target := .collected D, args := #[] } :: a.defers } W)
    (hstop : ∀ D c E' W, w.heap.size ≤ D → W.heap[D]? = some (.deferred (some [])) → ¬ E' D → Mv E w W → Gr E w E' → Ix c E' W → c.wpIn Fence.wide n P Q { a with defers := { target := .collected D, args := #[] } :: a.defers } W) :
    (Code.rangeFunc g ps assign body).wpIn Fence.wide n P Q a w := by
  refine wpIn_rangeFunc ?_
  intro fn _
  have hlow := hI.low _ _ _ h0
  obtain ⟨W1, hW1⟩ : ∃ W1, (w.alloc (.deferred (some []))).alloc (.loop { state := .ready, pending := none, fn := fn, tmps := a.tmps, params := ps, assign := assign, body := body, defers := w.heap.size }) = W1 := ⟨_, rfl⟩
  have hL1 : W1.heap[w.heap.size + 1]? = some (.loop { state := .ready, pending := none, fn := fn, tmps := a.tmps, params := ps, assign := assign, body := body, defers := w.heap.size }) := by
    rw [← hW1]; have := World.alloc_heap_new (w.alloc (.deferred (some []))) (.loop { state := .ready, pending := none, fn := fn, tmps := a.tmps, params := ps, assign := assign, body := body, defers := w.heap.size }); rwa [World.size_alloc] at this
  have hK1 : W1.heap[w.heap.size]? = some (.deferred (some [])) := by
    rw [← hW1]; exact (Below.heap_alloc _ _ _ (by simp)).trans (World.alloc_heap_new w _)
  have hs1 : W1.heap.size = w.heap.size + 2 := by rw [← hW1]; simp
  have m1 : Mv E w W1 := by rw [← hW1]; exact (Mv.alloc _ _ _).trans' (Mv.alloc _ _ _)
  have g1 : Gr E w (fun k => E k ∨ k = w.heap.size + 1) := fun k hk => hk.imp id (fun e => by omega)
  refine ⟨w.heap.size + 1, [{ target := .collected w.heap.size, args := #[] }], W1, { target := .fn (.func gf) lb, args := #[.func (.yield (w.heap.size + 1)) #[] #[]] }, W1, gf, #[.func (.yield (w.heap.size + 1)) #[] #[]] ++ lb, W1, ?_, ?_, fun _ _ => trivial, ?_, fun h => (by cases h), callsIn_wide.2 ?_⟩
  · rw [← hW1]; exact run_enterLoop_outer _ _ _ _ _
  · simp only [resolve, hg]
    simp [go_sem]
  · simp [invoke, go_sem, eg]
  · refine (hrow (w.heap.size + 1) _ _ (fun k => E k ∨ k = w.heap.size + 1) W1 m1 g1 ?_ ?_ ?_ ?_ (yi_of_roundS (fn := fn) (D := w.heap.size) (by omega) (by omega) hI hIx hps (hround _ (by omega))) ?_).mono ?_
    · refine ⟨fun s E1 W V h m => ?_, fun s E1 W h k hk => ?_⟩
      · obtain ⟨E0, hE, hEl, ⟨hi, hmw, hgw⟩, hl⟩ := h
        refine ⟨E0, hE, hEl, ⟨hI.keep _ _ _ _ hi (m.out (fun k _ h => ⟨fun e => h.1 ((hE k).2 (.inl e)), by omega⟩)), ?_, hgw⟩, ?_⟩
        · exact ⟨m.os.trans hmw.os, m.tape.trans hmw.tape, m.output.trans hmw.output, Nat.le_trans hmw.size m.size, fun k hk he => (m.block k (Nat.lt_of_lt_of_le hk hmw.size) (fun h => by omega)).trans (hmw.block k hk he)⟩
        · exact (m.block _ (Array.getElem?_eq_some_iff.1 hl).1 (fun h => h.1 ((hE _).2 (.inr rfl)))).trans hl
      · obtain ⟨E0, hE, hEl, ⟨hi, hmw, hgw⟩, hl⟩ := h
        rcases (hE k).1 hk with h | rfl
        · exact hI.low _ _ _ hi k h
        · exact (Array.getElem?_eq_some_iff.1 hl).1
    · refine ⟨fun s E1 W V h m => ?_, fun s E1 W h k hk => ?_⟩
      · obtain ⟨E0, c, hE, hEl, ⟨hi, hmw, hgw⟩, hl⟩ := h
        refine ⟨E0, c, hE, hEl, ⟨hIx.keep _ _ _ _ hi (m.out (fun k _ h => ⟨fun e => h.1 ((hE k).2 (.inl e)), by omega⟩)), ?_, hgw⟩, ?_⟩
        · exact ⟨m.os.trans hmw.os, m.tape.trans hmw.tape, m.output.trans hmw.output, Nat.le_trans hmw.size m.size, fun k hk he => (m.block k (Nat.lt_of_lt_of_le hk hmw.size) (fun h => by omega)).trans (hmw.block k hk he)⟩
        · exact (m.block _ (Array.getElem?_eq_some_iff.1 hl).1 (fun h => h.1 ((hE _).2 (.inr rfl)))).trans hl
      · obtain ⟨E0, c, hE, hEl, ⟨hi, hmw, hgw⟩, hl⟩ := h
        rcases (hE k).1 hk with h | rfl
        · exact hIx.low _ _ _ hi k h
        · exact (Array.getElem?_eq_some_iff.1 hl).1
    · rintro s E1 W ⟨E0, _, _, ⟨hi, _, _⟩, _⟩
      exact hL s E0 W hi
    · rintro x rest E1 W hx ⟨E0, hE, hEl, ⟨hi, hmw, hgw⟩, hl⟩
      exact ⟨E0, hE, hEl, ⟨hsk x rest E0 W hx hi, hmw, hgw⟩, hl⟩
    · exact ⟨E, fun k => Iff.rfl, fun h => by have := hlow _ h; omega, ⟨hI.keep _ _ _ _ h0 (by rw [← hW1]; exact (Mv.alloc _ _ _).trans' (Mv.alloc _ _ _)), m1, Gr.refl _ _⟩, hL1⟩
    · rintro e W2 ⟨⟨v, rfl⟩, m2, (⟨E1, g2, E0, hE, hEl, ⟨hi, mW, gW⟩, hl⟩ | ⟨E1, g2, E0, c, hE, hEl, ⟨hi, mW, gW⟩, hl⟩)⟩
      all_goals
        have hKD : W2.heap[w.heap.size]? = some (.deferred (some [])) := (m2.block _ (by omega) (fun h => by rcases h with h | h; exact absurd (hlow _ h) (by omega); omega)).trans hK1
        have nD : ¬ E0 w.heap.size := fun h => by
          rcases g2 _ ((hE _).2 (.inl h)) with (h | h) | h
          · exact absurd (hlow _ h) (by omega)
          · omega
          · omega
      · refine ⟨none, _, run_endLoop hl (by simp), ?_⟩
        exact hdone w.heap.size E0 _ (Nat.le_refl _) ((World.putObj_heap_other (by omega)).trans hKD) nD (mW.put_new (by omega) _) gW (hI.keep _ _ _ _ hi (.put ⟨hEl, by omega⟩ _))
      · refine ⟨some c, _, run_endLoop hl (by simp), ?_⟩
        exact hstop w.heap.size c E0 _ (Nat.le_refl _) ((World.putObj_heap_other (by omega)).trans hKD) nD (mW.put_new (by omega) _) gW (hIx.keep _ _ _ _ hi (.put ⟨hEl, by omega⟩ _))
/-- A loop over a row, in a round of another one. -/
theorem loop_inS {P : Program} {α : Type} {n l₀ : Nat} {g : Operand} {ps : Array Tmp} {assign body : Code} {Q : Exit → Act → World → Prop} {a : Act} {w : World} {gf : Nat} {lb : Array Value}
    (hl₀ : ∃ r₀, w.heap[l₀]? = some (.loop r₀)) (hg : a.eval g = .func (.func gf) #[] lb) (eg : ∀ args w, (callFunc gf args).run P w = .ok (.enter gf args) w) {enc : α → Array Value} {sk : α → Bool} {L : List α → World → Prop} {xs : List α} {E : Nat → Prop}
    (hrow : RowS P gf lb enc sk L xs E w) (hps : ∀ x, (enc x).size = ps.size) (I : List α → (Nat → Prop) → World → Prop) (Ix : Code → (Nat → Prop) → World → Prop) (hI : Ter w.heap.size I) (hIx : Ter w.heap.size Ix) (hL : ∀ s E W, I s E W → L s W) (hsk : ∀ x rest E W, sk x = true → I (x :: rest) E W → I rest E W) (h0 : I xs E w)
    (hround : ∀ l, w.heap.size ≤ l → RoundOkS P ps assign body enc sk I Ix a.tmps E w l)
    (hdone : ∀ E' W, Mv E w W → Gr E w E' → I [] E' W → Q .normal a W)
    (hstop : ∀ c E' W, Mv E w W → Gr E w E' → Ix c E' W → c.wpIn (Fence.wide.inRound l₀) n P Q a W) :
    (Code.rangeFunc g ps assign body).wpIn (Fence.wide.inRound l₀) n P Q a w := by
  refine wpIn_rangeFunc ?_
  intro fn _
  obtain ⟨r₀, hl₀⟩ := hl₀
  have hlow := hI.low _ _ _ h0
  obtain ⟨W1, hW1⟩ : ∃ W1, w.alloc (.loop { state := .ready, pending := none, fn := fn, tmps := a.tmps, params := ps, assign := assign, body := body, defers := r₀.defers }) = W1 := ⟨_, rfl⟩
  have hL1 : W1.heap[w.heap.size]? = some (.loop { state := .ready, pending := none, fn := fn, tmps := a.tmps, params := ps, assign := assign, body := body, defers := r₀.defers }) := by
    rw [← hW1]; exact World.alloc_heap_new w _
  have hs1 : W1.heap.size = w.heap.size + 1 := by rw [← hW1]; simp
  have m1 : Mv E w W1 := by rw [← hW1]; exact Mv.alloc _ _ _
  have g1 : Gr E w (fun k => E k ∨ k = w.heap.size) := fun k hk => hk.imp id (fun e => by omega)
  refine ⟨w.heap.size, [], W1, { target := .fn (.func gf) lb, args := #[.func (.yield w.heap.size) #[] #[]] }, W1, gf, #[.func (.yield w.heap.size) #[] #[]] ++ lb, W1, ?_, ?_, fun _ _ => trivial, ?_, fun h => (by cases h), CallsIn.inRound l₀ (callsIn_wide.2 ?_)⟩
  · rw [← hW1]; exact run_enterLoop_inner hl₀ _ _ _ _ _
  · simp only [resolve, hg]
    simp [go_sem]
  · simp [invoke, go_sem, eg]
  · refine (hrow w.heap.size _ _ (fun k => E k ∨ k = w.heap.size) W1 m1 g1 ?_ ?_ ?_ ?_ (yi_of_roundS (fn := fn) (D := r₀.defers) (by omega) (by omega) hI hIx hps (hround _ (by omega))) ?_).mono ?_
    · refine ⟨fun s E1 W V h m => ?_, fun s E1 W h k hk => ?_⟩
      · obtain ⟨E0, hE, hEl, ⟨hi, hmw, hgw⟩, hl⟩ := h
        refine ⟨E0, hE, hEl, ⟨hI.keep _ _ _ _ hi (m.out (fun k _ h => ⟨fun e => h.1 ((hE k).2 (.inl e)), by omega⟩)), ?_, hgw⟩, ?_⟩
        · exact ⟨m.os.trans hmw.os, m.tape.trans hmw.tape, m.output.trans hmw.output, Nat.le_trans hmw.size m.size, fun k hk he => (m.block k (Nat.lt_of_lt_of_le hk hmw.size) (fun h => by omega)).trans (hmw.block k hk he)⟩
        · exact (m.block _ (Array.getElem?_eq_some_iff.1 hl).1 (fun h => h.1 ((hE _).2 (.inr rfl)))).trans hl
      · obtain ⟨E0, hE, hEl, ⟨hi, hmw, hgw⟩, hl⟩ := h
        rcases (hE k).1 hk with h | rfl
        · exact hI.low _ _ _ hi k h
        · exact (Array.getElem?_eq_some_iff.1 hl).1
    · refine ⟨fun s E1 W V h m => ?_, fun s E1 W h k hk => ?_⟩
      · obtain ⟨E0, c, hE, hEl, ⟨hi, hmw, hgw⟩, hl⟩ := h
        refine ⟨E0, c, hE, hEl, ⟨hIx.keep _ _ _ _ hi (m.out (fun k _ h => ⟨fun e => h.1 ((hE k).2 (.inl e)), by omega⟩)), ?_, hgw⟩, ?_⟩
        · exact ⟨m.os.trans hmw.os, m.tape.trans hmw.tape, m.output.trans hmw.output, Nat.le_trans hmw.size m.size, fun k hk he => (m.block k (Nat.lt_of_lt_of_le hk hmw.size) (fun h => by omega)).trans (hmw.block k hk he)⟩
        · exact (m.block _ (Array.getElem?_eq_some_iff.1 hl).1 (fun h => h.1 ((hE _).2 (.inr rfl)))).trans hl
      · obtain ⟨E0, c, hE, hEl, ⟨hi, hmw, hgw⟩, hl⟩ := h
        rcases (hE k).1 hk with h | rfl
        · exact hIx.low _ _ _ hi k h
        · exact (Array.getElem?_eq_some_iff.1 hl).1
    · rintro s E1 W ⟨E0, _, _, ⟨hi, _, _⟩, _⟩
      exact hL s E0 W hi
    · rintro x rest E1 W hx ⟨E0, hE, hEl, ⟨hi, hmw, hgw⟩, hl⟩
      exact ⟨E0, hE, hEl, ⟨hsk x rest E0 W hx hi, hmw, hgw⟩, hl⟩
    · exact ⟨E, fun k => Iff.rfl, fun h => by have := hlow _ h; omega, ⟨hI.keep _ _ _ _ h0 (by rw [← hW1]; exact Mv.alloc _ _ _), m1, Gr.refl _ _⟩, hL1⟩
    · rintro e W2 ⟨⟨v, rfl⟩, m2, (⟨E1, g2, E0, hE, hEl, ⟨hi, mW, gW⟩, hl⟩ | ⟨E1, g2, E0, c, hE, hEl, ⟨hi, mW, gW⟩, hl⟩)⟩
      · exact ⟨none, _, run_endLoop hl (by simp), hdone E0 _ (mW.put_new (by omega) _) gW (hI.keep _ _ _ _ hi (.put ⟨hEl, by omega⟩ _))⟩
      · exact ⟨some c, _, run_endLoop hl (by simp), hstop c E0 _ (mW.put_new (by omega) _) gW (hIx.keep _ _ _ _ hi (.put ⟨hEl, by omega⟩ _))⟩
end Go.Proofs.YtedgnigogkmgkaaGreatDoor
/- A region that draws its order, in a round of a loop over a function: by the laws of held regions outside of it. -/
namespace Go.Proofs.YtedgnigogkmgkaaGreatDoor
open Go.RowKit Go.Shelf
def noDefer (ops : Array Oper) : Bool := ops.all fun o => match o.op with | .defer _ => false | _ => true
theorem op_round {P : Program} {o : Oper} {a : Act} {w : World} {K : Act → World → Prop} {Q : Exit → Act → World → Prop} {l n : Nat} (hd : ∀ c, o.op ≠ .defer c) (h : o.wp P a w K Q) : o.wpIn (Fence.wide.inRound l) n P a w K Q := by
  refine ⟨fun _ _ => trivial, ?_⟩
  rw [Oper.semAt_plain _ _ _ hd]
  unfold Oper.wp at h
  generalize (execOp a.eval o).run P w = r at *
  cases r with
  | ok x w' =>
    cases x
    case value v => exact h
    case skip => exact h
    case defer d => exact h
    case enter f args => exact ⟨fun e => (by cases e), CallsIn.inRound l (callsIn_wide.2 h)⟩
    case row row args => exact ⟨fun e => (by cases e), fun c cs _ => by obtain ⟨v, w2, r, s⟩ := h c cs; exact ⟨v, w2, r, stepsIn_wide.2 s⟩⟩
    all_goals exact h.elim
  | halt x w' =>
    cases x
    case panic v => exact h
    all_goals exact h.elim
theorem any_round {P : Program} {md : Region.Mode} {ops : Array Oper} {Q : Exit → Act → World → Prop} {l n : Nat} (hd : noDefer ops = true) (hQ : ¬ LetsOut Q) : ∀ (fuel : Nat) (listed : Array Bool) (a : Act) (w : World), wpAny P md ops Q fuel listed a w → wpAnyIn (Fence.wide.inRound l) n P md ops Q fuel listed a w
  | 0, _, _, _, h => h
  | fuel + 1, listed, a, w, h => by
    refine ⟨h.1, fun i hi => ?_⟩
    have h2 := h.2 i hi
    unfold wpOp at h2
    unfold wpOpIn
    cases ho : ops[i]? with
    | none => rw [ho] at h2; exact any_round hd hQ fuel _ _ _ h2
    | some o =>
      rw [ho] at h2
      simp only at h2 ⊢
      have hdo : ∀ c, o.op ≠ .defer c := fun c e => by
        have := Array.all_eq_true'.1 hd o (Array.mem_of_getElem? ho)
        rw [e] at this
        cases this
      split
      · rename_i hw
        rw [if_pos hw] at h2
        rcases h2 with h2 | h2
        · exact Oper.wpIn_mono (fun a w h => any_round hd hQ fuel _ _ _ h) (op_round hdo h2)
        · exact absurd h2.2 hQ
      · rename_i hw
        rw [if_neg hw] at h2
        exact ⟨fun _ _ => trivial, any_round hd hQ fuel _ _ _ h2⟩
/-- The region's law in a round. -/
theorem region_round {P : Program} {id : Nat} {ops : Array Oper} {Q : Exit → Act → World → Prop} {a : Act} {w : World} {l n : Nat} {S : World → Prop} (hm : P.follows .mixedOrders = true) (hd : noDefer ops = true) (hQ : ¬ LetsOut Q) (hS : S w.drew)
    (h : S w.drew → wpAnyH P .any ops Q S ops.size (Array.replicate ops.size false) a w.drew) : (Code.region id ops true).wpIn (Fence.wide.inRound l) n P Q a w :=
  wpIn_region_any hm (any_round hd hQ _ _ _ _ (wpAny_of_held _ _ _ _ (h hS)))
end Go.Proofs.YtedgnigogkmgkaaGreatDoor
/- The contract of (*Graph).count. -/
namespace Go.Proofs.YtedgnigogkmgkaaGreatDoor
open Go.RowKit Go.Shelf Go.Lib
attribute [local go_sem] Oper.semAt_some
set_option maxRecDepth 100000 in
set_option maxHeartbeats 1000000 in
theorem told_any (vs : Array Value) (w : World) : Calls Tryz.prog 101 #[.agg vs] w fun e w' => e = .returned (.func (.func 138) #[] #[.pointer (some ⟨w.heap.size, 0, none⟩)]) ∧ w' = w.alloc (.cells vs 30) := by
  go_enter Tryz.func101, Tryz.ntmps101
  go_wp2_with fail
  go_ret
  exact ⟨rfl, rfl⟩
/-- Where a graph's count stands: the edges of rest are still to be told of. -/
structure Ct (S : GS) (d : Int) (Kf : Ed → Int) (B cf : Nat) (rest : List Ed) (E : Nat → Prop) (W : World) : Prop where
  st : ∃ S' Kc, Gd W S' Kc ∧ addL Kc rest d = Kf ∧ (∀ k, E k ↔ hasEd S' k) ∧ (S'.gb = S.gb ∧ S'.ub = S.ub ∧ S'.eb1 = S.eb1 ∧ S'.eb2 = S.eb2) ∧ S'.c + 2 * rest.length ≤ cf ∧ (d = 1 ∨ (d = -1 ∧ ∀ f, (cn f rest : Int) ≤ Kc f))
  ok : ∀ e ∈ rest, okE e
  b0 : W.cell? ⟨B, 0, none⟩ = some (.pointer (some ⟨S.gb, 0, none⟩))
  b2 : W.cell? ⟨B + 2, 0, none⟩ = some (.int .i64 d)
  n0 : ¬ E B
  n2 : ¬ E (B + 2)
theorem Ct.ter {S : GS} {d : Int} {Kf : Ed → Int} {B cf N : Nat} (hB : B + 2 < N) (hgb : S.gb < N) : Ter N (Ct S d Kf B cf) := by
  refine ⟨fun s E W V h m => ?_, fun s E W h k hk => ?_⟩
  · obtain ⟨S', Kc, h1, h2, h3, h4, h5⟩ := h.st
    have hg : ¬ (¬ E S'.gb ∧ N ≤ S'.gb) := fun q => by rw [h4.1] at q; omega
    refine ⟨⟨S', Kc, h1.mv m (fun k hk q => q.1 ((h3 k).2 hk)) hg, h2, h3, h4, h5⟩, h.ok, m.cell (a := ⟨B, 0, none⟩) (fun q => by have := q.2; change N ≤ B at this; omega) h.b0, m.cell (a := ⟨B + 2, 0, none⟩) (fun q => by have := q.2; change N ≤ B + 2 at this; omega) h.b2, h.n0, h.n2⟩
  · obtain ⟨S', Kc, h1, h2, h3, h4, h5⟩ := h.st
    exact h1.lt ((h3 k).1 hk)
set_option maxRecDepth 100000 in
set_option maxHeartbeats 8000000 in
theorem gcount_any (S : GS) (K : Ed → Int) (vs : Array Value) (u : Un) (w : World) (h : Gd w S K) (hu : UV w vs u) (d : Int) (hd : d = 1 ∨ (d = -1 ∧ ∀ f, (cn f (tolU u) : Int) ≤ K f)) (hn : u.nm.size ≤ 1000) (hc : S.c + 2 * (tolU u).length ≤ 800000) (hsz : ∀ r ∈ relsU u, ∀ s ∈ r.2.2, s.size ≤ 2000000) (hgl : GlN w)
    (e0 : ¬ hasEd S 0) (e1 : ¬ hasEd S 1) (eu : ∀ b, ubk vs b → ¬ hasEd S b) :
    Calls Tryz.prog 60 #[.pointer (some ⟨S.gb, 0, none⟩), .agg vs, .int .i64 d] w fun e w' => e = .returned (.tuple #[]) ∧ ∃ S', Gd w' S' (addL K (tolU u) d) ∧ GdGo S w S' w' (2 * (tolU u).length) := by
  obtain ⟨cf, hcf⟩ : ∃ cf, S.c + 2 * (tolU u).length = cf := ⟨_, rfl⟩
  rw [hcf] at hc
  obtain ⟨gb, hgb⟩ : ∃ gb, S.gb = gb := ⟨_, rfl⟩
  obtain ⟨B, hB⟩ : ∃ B, w.heap.size = B := ⟨_, rfl⟩
  obtain ⟨W0, hW0⟩ : ∃ W0, ((w.alloc (.cells #[.pointer (some ⟨gb, 0, none⟩)] 24)).alloc (.cells vs 30)).alloc (.cells #[.int .i64 d] 3) = W0 := ⟨_, rfl⟩
  have b0 : Below w.heap.size w W0 := by rw [← hW0]; exact (((Below.refl _ _).alloc (Nat.le_refl _) _).alloc (by simp) _).alloc (by simp; omega) _
  have s0 : W0.heap.size = B + 3 := by rw [← hW0]; simp [hB]
  have c0 : W0.cell? ⟨B, 0, none⟩ = some (.pointer (some ⟨gb, 0, none⟩)) := by
    rw [← hW0, World.cell?_alloc_lt _ _ _ (by simp; omega), World.cell?_alloc_lt _ _ _ (by simp; omega)]
    exact cell_at hB rfl
  have c2 : W0.cell? ⟨B + 2, 0, none⟩ = some (.int .i64 d) := by rw [← hW0]; exact cell_at (by simp; omega) rfl
  have U0 : Ub (B + 1) vs W0 := by
    intro p v hp
    rw [← hW0, World.cell?_alloc_lt _ _ _ (by simp; omega)]
    exact cell_at (by simp; omega) hp
  have hld := U0.load hu.sz
  have htd := told_any vs W0
  obtain ⟨W1, hW1⟩ : ∃ W1, W0.alloc (.cells vs 30) = W1 := ⟨_, rfl⟩
  rw [hW1, s0] at htd
  have b1 : Below W0.heap.size W0 W1 := by rw [← hW1]; exact (Below.refl _ _).alloc (Nat.le_refl _) _
  have s1 : W1.heap.size = B + 4 := by rw [← hW1]; simp [s0]
  have U1 : Ub (B + 3) vs W1 := by rw [← hW1, ← s0]; exact Ub.mk' _ _ _
  have b01 : Below w.heap.size w W1 := b0.trans (b1.mono (by omega))
  have hu1 := hu.below b01
  have hg1 := h.mv (Mv.below (E := fun _ => False) b01) (fun _ _ q => q) (fun q => q)
  have hgl1 := hgl.below b01
  have lgb : gb < B := by rw [← hB, ← hgb]; exact cell_lt h.c1
  have hrow := told_row (B + 3) vs u (hasEd S) W1 (fun w hw => relations_any vs u w hw) hu1 U1 (fun q => by have := h.lt q; omega) eu hgl1 e0 e1 hsz
  have hct : Hid (Ct S d (addL K (tolU u) d) B cf (tolU u) (hasEd S) W1) :=
    ⟨⟨S, K, hg1, rfl, fun _ => Iff.rfl, ⟨rfl, rfl, rfl, rfl⟩, by omega, hd⟩, fun e he => tol_ok hn he, by rw [hgb]; exact (Mv.below (E := fun _ => False) b1).cell (fun h => h) c0, (Mv.below (E := fun _ => False) b1).cell (fun h => h) c2, fun q => by have := h.lt q; omega, fun q => by have := h.lt q; omega⟩
  have hlowS := hidP (fun k (hk : hasEd S k) => h.lt hk)
  have hbH := hidP b01
  have hNH : Hid (tolU u = tolU u) := rfl
  obtain ⟨eb1, heb1⟩ : ∃ x, S.eb1 = x := ⟨_, rfl⟩
  obtain ⟨eb2, heb2⟩ : ∃ x, S.eb2 = x := ⟨_, rfl⟩
  obtain ⟨Kf, hKf⟩ : ∃ x, addL K (tolU u) d = x := ⟨_, rfl⟩
  rw [hKf] at hct ⊢
  have hcfH := hidP hcf
  have hcf8 := hc
  clear h hu hd hn hc hcf hsz hgl e0 e1 eu b0 c0 c2 U0 b1 U1 b01 hu1 hg1 hgl1 hKf
  rw [hgb]
  refine (callsIn_wide (n := 5)).1 ?_
  refine callsIn_of_wp_marks Tryz.func60 rfl trivial ?_ rfl
  simp only [Tryz.ntmps60, List.size_toArray, List.length_cons, List.length_nil, Nat.reduceAdd, Nat.reduceSub, Array.replicate_succ, Array.replicate_zero, List.push_toArray, List.append_toArray, List.nil_append, List.cons_append]
  gi_wp2_with (first | rw [hW0] | refine wpListIn_loadU rfl _ rfl _ rfl _ hld ?_)
  refine ⟨trivial, (callsIn_wide.2 htd).mono ?_⟩
  rintro e w9 ⟨rfl, hw9⟩
  replace hw9 := hw9.symm
  subst hw9
  clear htd hld
  gi_wp2_with fail
  have tI : Ter W1.heap.size (Ct S d Kf B cf) := Ct.ter (by omega) (by omega)
  have tX : Ter W1.heap.size (fun (_ : Code) (_ : Nat → Prop) (_ : World) => False) := ⟨fun _ _ _ _ h _ => h, fun _ _ _ h => h.elim⟩
  refine loop_out (gf := 138) (lb := #[.pointer (some ⟨B + 3, 0, none⟩)]) rfl (enters_of Tryz.func138 (by kernel_rfl) rfl) hrow (fun _ => rfl) (Ct S d Kf B cf) (fun _ _ _ => False) tI tX hct.out ?round ?done ?stop
  case round =>
    intro l9 hl9 x rest E2 U hi hm hg hEl hrec
    have hlt : l9 < U.heap.size := by obtain ⟨r, hr⟩ := hrec; exact (Array.getElem?_eq_some_iff.1 hr).1
    obtain ⟨x0, x1, x2⟩ := x
    simp only [encE]
    gi_wp2_with fail
    refine ⟨⟨Mv.alloc _ _ _, Below.heap_alloc _ _ _ hlt⟩, fun U2 tw => ?_⟩
    obtain ⟨hi2, hm2⟩ := tw.go tI hi (Mv.alloc _ _ _) hm (Nat.le_refl _) hl9 hEl
    obtain ⟨eb, heb⟩ : ∃ eb, U.heap.size = eb := ⟨_, rfl⟩
    have y0 : U2.cell? ⟨eb, 0, none⟩ = some (.int .i64 x0) := tw.mv.cell (a := ⟨eb, 0, none⟩) (by show ¬ eb = l9; omega) (cell_at heb rfl)
    have y1 : U2.cell? ⟨eb, 1, none⟩ = some (.string x1) := tw.mv.cell (a := ⟨eb, 1, none⟩) (by show ¬ eb = l9; omega) (cell_at heb rfl)
    have y2 : U2.cell? ⟨eb, 2, none⟩ = some (.string x2) := tw.mv.cell (a := ⟨eb, 2, none⟩) (by show ¬ eb = l9; omega) (cell_at heb rfl)
    have nE : ¬ E2 eb := fun q => by have := tI.low _ _ _ hi eb q; omega
    obtain ⟨⟨T, Kc, g1, g2, g3, ⟨g4, g5, g6, g7⟩, g8, g9⟩, ok, bb0, bb2, n0, n2⟩ := hi2
    have okx := ok (x0, x1, x2) (List.mem_cons_self ..)
    have hTc : T.c + 2 * (rest.length + 1) ≤ cf := g8
    have hdx : d = 1 ∨ (d = -1 ∧ 1 ≤ Kc (x0, x1, x2)) := g9.imp id (fun q => ⟨q.1, by have := q.2 (x0, x1, x2); simp [cn] at this; omega⟩)
    have nT : ∀ k, hasEd T k → E2 k := fun k hk => (g3 k).2 hk
    have gd := g1.mv (Mv.drew (fun _ => False) U2) (fun _ _ q => q) (fun q => q)
    have hc1 := ecount_any gd.e1 x1 (x0, x1, x2) okx (d := d) (hdx.imp id (fun q => ⟨q.1, by have := fw_at Kc (x0, x1, x2); rw [show fw Kc x1 (x0, x1, x2) = Kc (x0, x1, x2) from this]; exact q.2⟩)) okx.2.1 (by omega)
    have hSa : U2.drew.cell? ⟨B, 0, none⟩ = some (.pointer (some ⟨gb, 0, none⟩)) ∧ U2.drew.cell? ⟨gb, 1, none⟩ = some (.map (some eb1)) ∧ U2.drew.cell? ⟨gb, 2, none⟩ = some (.map (some eb2)) ∧ U2.drew.cell? ⟨eb, 0, none⟩ = some (.int .i64 x0) ∧ U2.drew.cell? ⟨eb, 1, none⟩ = some (.string x1) ∧ U2.drew.cell? ⟨eb, 2, none⟩ = some (.string x2) ∧ U2.drew.cell? ⟨B + 2, 0, none⟩ = some (.int .i64 d) := by
      refine ⟨by rw [← hgb]; exact bb0, ?_, ?_, y0, y1, y2, bb2⟩
      · have := gd.c1; rw [g4, g6, hgb, heb1] at this; exact this
      · have := gd.c2; rw [g4, g7, hgb, heb2] at this; exact this
    have hkeep : ∀ V W, Mv (hasEd T) V W → (V.cell? ⟨B, 0, none⟩ = some (.pointer (some ⟨gb, 0, none⟩)) ∧ V.cell? ⟨gb, 1, none⟩ = some (.map (some eb1)) ∧ V.cell? ⟨gb, 2, none⟩ = some (.map (some eb2)) ∧ V.cell? ⟨eb, 0, none⟩ = some (.int .i64 x0) ∧ V.cell? ⟨eb, 1, none⟩ = some (.string x1) ∧ V.cell? ⟨eb, 2, none⟩ = some (.string x2) ∧ V.cell? ⟨B + 2, 0, none⟩ = some (.int .i64 d)) → (W.cell? ⟨B, 0, none⟩ = some (.pointer (some ⟨gb, 0, none⟩)) ∧ W.cell? ⟨gb, 1, none⟩ = some (.map (some eb1)) ∧ W.cell? ⟨gb, 2, none⟩ = some (.map (some eb2)) ∧ W.cell? ⟨eb, 0, none⟩ = some (.int .i64 x0) ∧ W.cell? ⟨eb, 1, none⟩ = some (.string x1) ∧ W.cell? ⟨eb, 2, none⟩ = some (.string x2) ∧ W.cell? ⟨B + 2, 0, none⟩ = some (.int .i64 d)) := by
      intro V W m ⟨a0, a1, a2, a3, a4, a5, a6⟩
      have ng : ¬ hasEd T gb := fun q => g1.ng (by rw [g4, hgb]; exact q)
      exact ⟨m.cell (a := ⟨B, 0, none⟩) (fun q => n0 (nT _ q)) a0, m.cell (a := ⟨gb, 1, none⟩) ng a1, m.cell (a := ⟨gb, 2, none⟩) ng a2, m.cell (a := ⟨eb, 0, none⟩) (fun q => nE (nT _ q)) a3, m.cell (a := ⟨eb, 1, none⟩) (fun q => nE (nT _ q)) a4, m.cell (a := ⟨eb, 2, none⟩) (fun q => nE (nT _ q)) a5, m.cell (a := ⟨B + 2, 0, none⟩) (fun q => n2 (nT _ q)) a6⟩
    have hkH := hidP hkeep
    have gdH := hidP gd
    have hall : Hid ((addL Kc ((x0, x1, x2) :: rest) d = Kf) ∧ (∀ k, E2 k ↔ hasEd T k) ∧ (T.gb = S.gb ∧ T.ub = S.ub ∧ T.eb1 = S.eb1 ∧ T.eb2 = S.eb2) ∧ T.c + 2 * (rest.length + 1) ≤ cf ∧ (d = 1 ∨ (d = -1 ∧ ∀ f, (cn f ((x0, x1, x2) :: rest) : Int) ≤ Kc f)) ∧ (∀ e ∈ rest, okE e) ∧ okE (x0, x1, x2) ∧ ¬ E2 B ∧ ¬ E2 (B + 2)) :=
      ⟨g2, g3, ⟨g4, g5, g6, g7⟩, hTc, g9, fun e he => ok e (List.mem_cons_of_mem _ he), okx, n0, n2⟩
    rw [g6, heb1] at hc1
    have hdxH := hidP hdx
    have mU : Hid (Mv (fun _ => False) U2 U2.drew) := Mv.drew _ _
    have e6 := g6.trans heb1
    have e7 := g7.trans heb2
    have hsU : Hid (∀ k, hasEd T k → k < U2.heap.size) := fun k hk => g1.lt hk
    clear hi hm hm2 tw hrec g1 g2 g3 g4 g5 g6 g7 g8 g9 ok bb0 bb2 n0 n2 okx hTc hdx nT gd y0 y1 y2 nE hkeep hlt hg
    unfold edV at hc1
    gi_wp2_with fail
    refine region_round (S := (fun y => (y.cell? ⟨B, 0, none⟩ = some (.pointer (some ⟨gb, 0, none⟩)) ∧ y.cell? ⟨gb, 1, none⟩ = some (.map (some eb1)) ∧ y.cell? ⟨gb, 2, none⟩ = some (.map (some eb2)) ∧ y.cell? ⟨eb, 0, none⟩ = some (.int .i64 x0) ∧ y.cell? ⟨eb, 1, none⟩ = some (.string x1) ∧ y.cell? ⟨eb, 2, none⟩ = some (.string x2) ∧ y.cell? ⟨B + 2, 0, none⟩ = some (.int .i64 d)))) (by kernel_rfl) (by kernel_rfl) (by rintro ⟨_, _, h⟩; exact h) ?_ (fun hHeld => ?_)
    · exact hSa
    refine wpAnyH_take (i := 0) (oi := ⟨some 10, _, _, _, _, _⟩) (v := ?v10) rfl (by kernel_rfl) (by kernel_rfl) (by kernel_rfl) (fun _ _ _ h => h) (Or.inl ⟨by rfl, ?hy10⟩) (by assumption) ?_
    case hy10 => (intro w hSw; (try dsimp only at hSw); go_simp; try with_reducible rfl)
    simp only [Act.put, List.setIfInBounds_toArray, List.set_cons_zero, List.set_cons_succ]
    refine wpAnyH_take (i := 1) (oi := ⟨some 11, _, _, _, _, _⟩) (v := ?v11) rfl (by kernel_rfl) (by kernel_rfl) (by kernel_rfl) (fun _ _ _ h => h) (Or.inl ⟨by rfl, ?hy11⟩) (by assumption) ?_
    case hy11 => (intro w hSw; (try dsimp only at hSw); go_simp; try with_reducible rfl)
    simp only [Act.put, List.setIfInBounds_toArray, List.set_cons_zero, List.set_cons_succ]
    refine wpAnyH_take (i := 2) (oi := ⟨some 12, _, _, _, _, _⟩) (v := ?v12) rfl (by kernel_rfl) (by kernel_rfl) (by kernel_rfl) (fun _ _ _ h => h) (Or.inl ⟨by rfl, ?hy12⟩) (by assumption) ?_
    case hy12 => (intro w hSw; (try dsimp only at hSw); go_simp; try with_reducible rfl)
    simp only [Act.put, List.setIfInBounds_toArray, List.set_cons_zero, List.set_cons_succ]
    refine wpAnyH_take (i := 3) (oi := ⟨some 13, _, _, _, _, _⟩) (v := ?v13) rfl (by kernel_rfl) (by kernel_rfl) (by kernel_rfl) (fun _ _ _ h => h) (Or.inl ⟨by rfl, ?hy13⟩) (by assumption) ?_
    case hy13 => (intro w hSw; (try dsimp only at hSw); go_simp; try with_reducible rfl)
    simp only [Act.put, List.setIfInBounds_toArray, List.set_cons_zero, List.set_cons_succ]
    refine wpAnyH_take (i := 4) (oi := ⟨some 14, _, _, _, _, _⟩) (v := ?v14) rfl (by kernel_rfl) (by kernel_rfl) (by kernel_rfl) (fun _ _ _ h => h) (Or.inl ⟨by rfl, ?hy14⟩) (by assumption) ?_
    case hy14 => (intro w hSw; (try dsimp only at hSw); go_simp; try with_reducible rfl)
    simp only [Act.put, List.setIfInBounds_toArray, List.set_cons_zero, List.set_cons_succ]
    refine wpAnyH_take (i := 5) (oi := ⟨some 15, _, _, _, _, _⟩) (v := ?v15) rfl (by kernel_rfl) (by kernel_rfl) (by kernel_rfl) (fun _ _ _ h => h) (Or.inl ⟨by rfl, ?hy15⟩) (by assumption) ?_
    case hy15 => (intro w hSw; (try dsimp only at hSw); go_simp; try with_reducible rfl)
    simp only [Act.put, List.setIfInBounds_toArray, List.set_cons_zero, List.set_cons_succ]
    refine wpAnyH_take (i := 6) (oi := ⟨some 16, _, _, _, _, _⟩) (v := ?v16) rfl (by kernel_rfl) (by kernel_rfl) (by kernel_rfl) (fun _ _ _ h => h) (Or.inl ⟨by rfl, ?hy16⟩) (by assumption) ?_
    case hy16 => (intro w hSw; (try dsimp only at hSw); go_simp; try with_reducible rfl)
    simp only [Act.put, List.setIfInBounds_toArray, List.set_cons_zero, List.set_cons_succ]
    refine wpAnyH_take (i := 7) (oi := ⟨some 17, _, _, _, _, _⟩) (v := ?v17) rfl (by kernel_rfl) (by kernel_rfl) (by kernel_rfl) (fun _ _ _ h => h) (Or.inl ⟨by rfl, ?hy17⟩) (by assumption) ?_
    case hy17 => (intro w hSw; (try dsimp only at hSw); go_simp; try with_reducible rfl)
    simp only [Act.put, List.setIfInBounds_toArray, List.set_cons_zero, List.set_cons_succ]
    refine wpAnyH_ready (rs := [8]) (by kernel_rfl) (by simp) ?_
    refine AllReadyH.cons (o := ⟨some 18, _, _, _, _, _⟩) rfl (fun K hK => ?_) AllReadyH.nil
    go_simp
    refine hc1.mono ?_
    rintro e w1 ⟨rfl, f1', hE1, hG1⟩
    have hSw := hkH.out _ _ (hG1.mv.mono (fun k _ q => .inl (by rw [e6]; exact q))) hSa
    have hS1 := hidP hSw
    have hSz := hidP hSa
    replace hE1 := hidP hE1
    replace hG1 := hidP hG1
    clear hc1 hSa
    refine hK.out _ _ hSw (fun _ => ?_)
    clear hSw
    clear hK K hHeld
    refine wpAnyH_done (by kernel_rfl) ?_ _
    gi_wp2_with fail

    have hSb := hS1.out
    have gd2 := gdH.out
    have hc2 : Calls Tryz.prog 102 #[.map (some eb2), .string x2, .agg #[.int .i64 x0, .string x1, .string x2], .int .i64 d] w1.drew fun r w' => r = .returned (.tuple #[]) ∧ ∃ fb', En w' eb2 fb' (updC (bw Kc) x2 (x0, x1, x2) d) (T.c + 1 + 1) ∧ EnGo w1.drew eb2 T.f2 w' fb' := by
      have k1 := (gd2.fst (f1' := f1') (by rw [e6]; exact hG1.out)).2.2.1
      rw [e7] at k1
      exact ecount_any (k1.mv (Mv.drew (fun _ => False) w1) (fun _ _ q => q)) x2 (x0, x1, x2) hall.out.2.2.2.2.2.2.1 (d := d) (hdxH.out.imp id (fun q => ⟨q.1, by have := bw_at Kc (x0, x1, x2); rw [show bw Kc x2 (x0, x1, x2) = Kc (x0, x1, x2) from this]; exact q.2⟩)) hall.out.2.2.2.2.2.2.1.2.2 (by have := hall.out.2.2.2.1; omega)
    clear gd2
    refine region_round (S := (fun y => (y.cell? ⟨B, 0, none⟩ = some (.pointer (some ⟨gb, 0, none⟩)) ∧ y.cell? ⟨gb, 1, none⟩ = some (.map (some eb1)) ∧ y.cell? ⟨gb, 2, none⟩ = some (.map (some eb2)) ∧ y.cell? ⟨eb, 0, none⟩ = some (.int .i64 x0) ∧ y.cell? ⟨eb, 1, none⟩ = some (.string x1) ∧ y.cell? ⟨eb, 2, none⟩ = some (.string x2) ∧ y.cell? ⟨B + 2, 0, none⟩ = some (.int .i64 d)))) (by kernel_rfl) (by kernel_rfl) (by rintro ⟨_, _, h⟩; exact h) ?_ (fun hHeld => ?_)
    · exact hSb
    refine wpAnyH_take (i := 0) (oi := ⟨some 19, _, _, _, _, _⟩) (v := ?v20) rfl (by kernel_rfl) (by kernel_rfl) (by kernel_rfl) (fun _ _ _ h => h) (Or.inl ⟨by rfl, ?hy20⟩) (by assumption) ?_
    case hy20 => (intro w hSw; (try dsimp only at hSw); go_simp; try with_reducible rfl)
    simp only [Act.put, List.setIfInBounds_toArray, List.set_cons_zero, List.set_cons_succ]
    refine wpAnyH_take (i := 1) (oi := ⟨some 20, _, _, _, _, _⟩) (v := ?v21) rfl (by kernel_rfl) (by kernel_rfl) (by kernel_rfl) (fun _ _ _ h => h) (Or.inl ⟨by rfl, ?hy21⟩) (by assumption) ?_
    case hy21 => (intro w hSw; (try dsimp only at hSw); go_simp; try with_reducible rfl)
    simp only [Act.put, List.setIfInBounds_toArray, List.set_cons_zero, List.set_cons_succ]
    refine wpAnyH_take (i := 2) (oi := ⟨some 21, _, _, _, _, _⟩) (v := ?v22) rfl (by kernel_rfl) (by kernel_rfl) (by kernel_rfl) (fun _ _ _ h => h) (Or.inl ⟨by rfl, ?hy22⟩) (by assumption) ?_
    case hy22 => (intro w hSw; (try dsimp only at hSw); go_simp; try with_reducible rfl)
    simp only [Act.put, List.setIfInBounds_toArray, List.set_cons_zero, List.set_cons_succ]
    refine wpAnyH_take (i := 3) (oi := ⟨some 22, _, _, _, _, _⟩) (v := ?v23) rfl (by kernel_rfl) (by kernel_rfl) (by kernel_rfl) (fun _ _ _ h => h) (Or.inl ⟨by rfl, ?hy23⟩) (by assumption) ?_
    case hy23 => (intro w hSw; (try dsimp only at hSw); go_simp; try with_reducible rfl)
    simp only [Act.put, List.setIfInBounds_toArray, List.set_cons_zero, List.set_cons_succ]
    refine wpAnyH_take (i := 4) (oi := ⟨some 23, _, _, _, _, _⟩) (v := ?v24) rfl (by kernel_rfl) (by kernel_rfl) (by kernel_rfl) (fun _ _ _ h => h) (Or.inl ⟨by rfl, ?hy24⟩) (by assumption) ?_
    case hy24 => (intro w hSw; (try dsimp only at hSw); go_simp; try with_reducible rfl)
    simp only [Act.put, List.setIfInBounds_toArray, List.set_cons_zero, List.set_cons_succ]
    refine wpAnyH_take (i := 5) (oi := ⟨some 24, _, _, _, _, _⟩) (v := ?v25) rfl (by kernel_rfl) (by kernel_rfl) (by kernel_rfl) (fun _ _ _ h => h) (Or.inl ⟨by rfl, ?hy25⟩) (by assumption) ?_
    case hy25 => (intro w hSw; (try dsimp only at hSw); go_simp; try with_reducible rfl)
    simp only [Act.put, List.setIfInBounds_toArray, List.set_cons_zero, List.set_cons_succ]
    refine wpAnyH_take (i := 6) (oi := ⟨some 25, _, _, _, _, _⟩) (v := ?v26) rfl (by kernel_rfl) (by kernel_rfl) (by kernel_rfl) (fun _ _ _ h => h) (Or.inl ⟨by rfl, ?hy26⟩) (by assumption) ?_
    case hy26 => (intro w hSw; (try dsimp only at hSw); go_simp; try with_reducible rfl)
    simp only [Act.put, List.setIfInBounds_toArray, List.set_cons_zero, List.set_cons_succ]
    refine wpAnyH_take (i := 7) (oi := ⟨some 26, _, _, _, _, _⟩) (v := ?v27) rfl (by kernel_rfl) (by kernel_rfl) (by kernel_rfl) (fun _ _ _ h => h) (Or.inl ⟨by rfl, ?hy27⟩) (by assumption) ?_
    case hy27 => (intro w hSw; (try dsimp only at hSw); go_simp; try with_reducible rfl)
    simp only [Act.put, List.setIfInBounds_toArray, List.set_cons_zero, List.set_cons_succ]
    refine wpAnyH_ready (rs := [8]) (by kernel_rfl) (by simp) ?_
    refine AllReadyH.cons (o := ⟨some 27, _, _, _, _, _⟩) rfl (fun K hK => ?_) AllReadyH.nil
    go_simp
    refine hc2.mono ?_
    rintro e w2 ⟨rfl, f2', hE2, hG2⟩
    have hSw := hkH.out _ _ (hG2.mv.mono (fun k _ q => .inr (by rw [e7]; exact q))) (hSb : w1.drew.cell? ⟨B, 0, none⟩ = some (.pointer (some ⟨gb, 0, none⟩)) ∧ _)
    have hS2 := hidP hSw
    replace hE2 := hidP hE2
    replace hG2 := hidP hG2
    clear hc2 hSb
    refine hK.out _ _ hSw (fun _ => ?_)
    clear hSw
    clear hK K hHeld
    refine wpAnyH_done (by kernel_rfl) ?_ _
    gi_wp2_with fail

    have hend := hall.out
    obtain ⟨g2, g3, ⟨g4, g5, g6, g7⟩, g8, g9, ok, okx, n0, n2⟩ := hend
    have h1' : En w1 T.eb1 f1' (updC (fw Kc) x1 (x0, x1, x2) d) (T.c + 1) := by rw [e6]; exact hE1.out
    have G1' : EnGo U2.drew T.eb1 T.f1 w1 f1' := by rw [e6]; exact hG1.out
    have h2' : En w2 T.eb2 f2' (updC (bw Kc) x2 (x0, x1, x2) d) (T.c + 2) := by rw [e7]; exact hE2.out
    have G2' : EnGo w1 T.eb2 T.f2 w2 f2' := by rw [e7]; exact ⟨(Mv.drew _ _).trans' hG2.out.mv, hG2.out.gr⟩
    obtain ⟨T', q1, q2⟩ := gdH.out.snd (e := (x0, x1, x2)) h1' G1' h2' G2'
    have qm : Mv E2 U2 w2 := (mU.out.mono (fun _ _ q => q.elim)).trans' (q2.mv.mono (fun k _ q => (g3 k).2 q))
    have qg : Gr E2 U2 (hasEd T') := fun k hk => (q2.gr k hk).imp (fun q => (g3 k).2 q) id
    refine ⟨qm, hasEd T', qg, ⟨T', updK Kc (x0, x1, x2) d, q1, (addL_cons Kc (x0, x1, x2) rest d).trans g2, fun _ => Iff.rfl, ⟨q2.gb.trans g4, q2.ub.trans g5, q2.eb1.trans g6, q2.eb2.trans g7⟩, by have := q2.c; omega, ?_⟩, ok, by rw [hgb]; exact hS2.out.1, hS2.out.2.2.2.2.2.2, fun q => ?_, fun q => ?_⟩
    · refine g9.imp id (fun q => ⟨q.1, fun f => ?_⟩)
      have := q.2 f
      unfold updK
      simp only [cn] at this
      split
      · next e => subst e; simp at this; omega
      · next e =>
        have e2 : ¬ (x0, x1, x2) = f := fun h => e h.symm
        simp [e2] at this
        exact this
    · rcases qg _ q with r | r
      · exact n0 r
      · have := cell_lt hSz.out.1; change U2.heap.size ≤ B at r; change B < U2.heap.size at this; omega
    · rcases qg _ q with r | r
      · exact n2 r
      · have := cell_lt hSz.out.2.2.2.2.2.2; change U2.heap.size ≤ B + 2 at r; change B + 2 < U2.heap.size at this; omega
  case done =>
    intro D E2 U hD hK hnD hm hg hi
    gi_wp2_with fail
    refine ⟨by simp, .inl ⟨_, _, rfl, run_takeDeferred hK, ?_⟩⟩
    obtain ⟨T, Kc, g1, g2, g3, ⟨g4, g5, g6, g7⟩, g8, g9⟩ := hi.st
    rw [addL_nil] at g2
    have mP : Mv (fun j => j = D) U (U.putObj D (.deferred none)) := Mv.put (E := fun j => j = D) rfl _
    refine ⟨_, results_none rfl _ _ _, rfl, T, ?_, g4, g5, g6, g7, ?_, fun k hk => ?_, ?_⟩
    · rw [← g2]
      exact g1.mv mP (fun k hk q => hnD (by rw [← q]; exact (g3 k).2 hk)) (by rw [g4, hgb]; omega)
    · exact ((Mv.below hbH.out).trans' hm).put_new (by omega) _
    · rcases hg k ((g3 k).2 hk) with r | r
      · exact .inl r
      · exact .inr (by omega)
    · have := hcfH.out; simp at g8; omega
  case stop =>
    intro D c E2 U hD hK hnD hm hg hi
    exact hi.elim
end Go.Proofs.YtedgnigogkmgkaaGreatDoor
/- The contract of graph.copied. -/
namespace Go.Proofs.YtedgnigogkmgkaaGreatDoor
open Go.RowKit Go.Shelf Go.Lib
theorem posL_lt {i p : Nat} (h : posL[i]? = some p) : p < 33 ∧ i < 13 := by
  obtain ⟨h1, h2⟩ := List.getElem?_eq_some_iff.1 h
  have : i < 13 := h1
  have hm : p ∈ posL := List.mem_of_getElem? h
  unfold posL at hm
  simp at hm
  omega
theorem posL_inj {i j p : Nat} (h : posL[i]? = some p) (g : posL[j]? = some p) : i = j := by
  have key : ∀ a : Fin 13, ∀ b : Fin 13, posL[a.1]? = posL[b.1]? → a.1 = b.1 := by decide
  exact key ⟨i, (posL_lt h).2⟩ ⟨j, (posL_lt g).2⟩ (h.trans g.symm)
/-- The pointers to a unit's lists. -/
def ptrs (n : Nat) : List Value := posL.map fun p => .pointer (some ⟨n, p, none⟩)
theorem undPl : Tryz.prog.underlying 164 = some (.slice 163) := Tryz.underlying164
/-- How far it is copied: lists ahead of k are copies. -/
structure Cp (w : World) (vs : Array Value) (u : Un) (n k : Nat) (cs : Array Value) (W : World) : Prop where
  sz : cs.size = 33
  cel : Ub n cs W
  fz : ∀ p, W.frozen? ⟨n, p, none⟩ = false
  new : ∀ i p, posL[i]? = some p → i < k → ∃ v, cs[p]? = some v ∧ NR W v (u.ls i) ∧ ∀ b, rbk v = some b → n + 2 < b
  old : ∀ p, (∀ i, posL[i]? = some p → k ≤ i) → cs[p]? = vs[p]?
  mv : Mv (fun j => j = n) w W
  pt : ∀ i p, posL[i]? = some p → W.cell? ⟨n + 2, i, none⟩ = some (.pointer (some ⟨n, p, none⟩))
  hn : w.heap.size = n
  hz : n + 2 < W.heap.size
theorem Cp.step {w W W1 : World} {vs cs : Array Value} {u : Un} {n k p : Nat} {v' : Value} (h : Cp w vs u n k cs W) (hp : posL[k]? = some p) (hv : NR W1 v' (u.ls k)) (hf : ∀ b, rbk v' = some b → W.heap.size ≤ b) (hb : Below W.heap.size W W1) : Cp w vs u n (k + 1) (cs.setIfInBounds p v') (W1.setCell ⟨n, p, none⟩ v') := by
  have hlt := posL_lt hp
  have hz := h.hz
  have m1 : Mv (fun j => j = n) W W1 := Mv.below hb
  have m2 : Mv (fun j => j = n) W1 (W1.setCell ⟨n, p, none⟩ v') := (Mv.refl (fun j => j = n) W1).setc (p := ⟨n, p, none⟩) (.inl rfl) _
  have hn := h.hn
  have hsz := hb.size
  have hb1 : Ub n cs W1 := h.cel.mv (Mv.below (E := fun _ => False) hb) (fun h => h)
  refine ⟨by rw [Array.size_setIfInBounds]; exact h.sz, fun q x hq => ?_, fun q => ?_, fun i q hi hik => ?_, fun q hq => ?_, (h.mv.trans' m1).trans' m2, fun i q hi => ?_, h.hn, ?_⟩
  · by_cases e : q = p
    · subst e
      rw [Array.getElem?_setIfInBounds_self_of_lt (by rw [h.sz]; exact hlt.1)] at hq
      cases hq
      exact World.cell?_setCell_same' _ _ _ (by
        have : q < cs.size := by rw [h.sz]; exact hlt.1
        rw [hb1 q cs[q] (Array.getElem?_eq_getElem this)]; rfl)
    · rw [Array.getElem?_setIfInBounds_ne (fun e2 => e e2.symm)] at hq
      rw [World.cell?_setCell_other _ _ _ _ (by simp)]
      exact hb1 q x hq
  · rw [World.frozen?_setCell]
    exact ((Mv.below (E := fun _ => False) hb).froz (a := ⟨n, q, none⟩) (fun h => h) (by show n < _; omega)).trans (h.fz q)
  · by_cases e : i = k
    · subst e
      rw [hp] at hi
      cases hi
      refine ⟨v', ?_, hv.mv m2 (fun b hk e => by have := hf b hk; omega), fun b hk => by have := hf b hk; omega⟩
      rw [Array.getElem?_setIfInBounds_self_of_lt (by rw [h.sz]; exact hlt.1)]
    · have e2 : p ≠ q := fun e2 => e (posL_inj hi (e2 ▸ hp))
      obtain ⟨x, q1, q2, q3⟩ := h.new i q hi (by omega)
      exact ⟨x, by rw [Array.getElem?_setIfInBounds_ne e2]; exact q1, (q2.mv m1 (fun b hk => by have := q3 b hk; omega)).mv m2 (fun b hk => by have := q3 b hk; omega), q3⟩
  · have e2 : p ≠ q := fun e2 => by have := hq k (e2 ▸ hp); omega
    rw [Array.getElem?_setIfInBounds_ne e2]
    exact h.old q (fun i hi => by have := hq i hi; omega)
  · rw [World.cell?_setCell_other _ _ _ _ (by simp)]
    exact (Mv.below (E := fun _ => False) hb).cell (fun h => h) (h.pt i q hi)
  · show n + 2 < (W1.setCell _ _).heap.size
    simp
    try omega
theorem Cp.done {w W : World} {vs cs : Array Value} {u : Un} {n : Nat} (h : Cp w vs u n 13 cs W) (hu : UV w vs u) : UV W cs u ∧ ∀ b, ubk cs b → n + 2 < b := by
  have no : ∀ q, q ∉ posL → cs[q]? = vs[q]? := fun q hq => h.old q (fun i hi => absurd (List.mem_of_getElem? hi) hq)
  refine ⟨⟨h.sz, fun q x hq => ?_, (no 0 (by decide)).trans hu.c0, (no 1 (by decide)).trans hu.c1, (no 10 (by decide)).trans hu.c10, (no 25 (by decide)).trans hu.c25, fun i p hp => ?_, fun p h1 h2 => by rw [no p h2]; exact hu.os p h1 h2⟩, fun b hb => ?_⟩
  · by_cases hm : q ∈ posL
    · obtain ⟨i, hi⟩ := List.mem_iff_getElem?.1 hm
      obtain ⟨v2, q3, q4, _⟩ := h.new i q hi (posL_lt hi).2
      rw [hq] at q3; cases q3
      exact q4.one
    · rw [no q hm] at hq
      exact hu.on q x hq
  · obtain ⟨v, q1, q2, _⟩ := h.new i p hp (posL_lt hp).2
    exact ⟨v, q1, q2⟩
  · obtain ⟨p, v, q1, q2⟩ := hb
    by_cases hm : p ∈ posL
    · obtain ⟨i, hi⟩ := List.mem_iff_getElem?.1 hm
      obtain ⟨v2, q3, _, q4⟩ := h.new i p hi (posL_lt hi).2
      rw [q1] at q3; cases q3
      exact q4 b q2
    · have hp : p < 33 := by have := (Array.getElem?_eq_some_iff.1 q1).1; have := h.sz; omega
      rw [no p hm, (hu.os p hp hm).1] at q1
      cases q1
      rw [(hu.os p hp hm).2] at q2; cases q2
set_option maxRecDepth 100000 in
set_option maxHeartbeats 4000000 in
theorem copied_any (vs : Array Value) (u : Un) (w : World) (hu : UV w vs u) :
    Calls Tryz.prog 59 #[.agg vs] w fun e w' => ∃ cs, e = .returned (.agg cs) ∧ UV w' cs u ∧ (∀ b, ubk cs b → w.heap.size ≤ b) ∧ Below w.heap.size w w' := by
  obtain ⟨n, hn⟩ : ∃ n, w.heap.size = n := ⟨_, rfl⟩
  have hsz := hu.sz
  have huH := hidP hu
  clear hu
  go_enter Tryz.func59, Tryz.ntmps59
  go_wp2_with fail
  generalize hW0 : World.alloc (World.alloc (World.alloc w _) _) _ = W0
  have hcp : Hid (∃ cs, Cp w vs u n 0 cs W0) := by
    refine ⟨vs, hsz, ?_, ?_, fun i p _ h => by omega, fun p _ => rfl, ?_, ?_, hn, ?_⟩
    · rw [← hW0]
      intro p v hp
      rw [World.cell?_alloc_lt _ _ _ (by simp; omega), World.cell?_alloc_lt _ _ _ (by simp; omega)]
      exact cell_at hn hp
    · rw [← hW0]
      intro p
      unfold World.frozen?
      rw [Below.heap_alloc _ _ _ (by simp; omega), Below.heap_alloc _ _ _ (by simp; omega), ← hn, World.alloc_heap_new]
      simp
    · rw [← hW0]
      exact ((Mv.alloc _ _ _).trans' (Mv.alloc _ _ _)).trans' (Mv.alloc _ _ _)
    · rw [← hW0]
      intro i p hp
      refine cell_at (by simp; omega) ?_
      have : (ptrs n).toArray[i]? = some (.pointer (some ⟨n, p, none⟩)) := by
        unfold ptrs
        rw [List.getElem?_toArray, List.getElem?_map, hp]; rfl
      exact this
    · rw [← hW0]
      simp
      omega
  have hzu : Hid ((∀ p, p < 33 → (W0.cell? ⟨n + 1, p, none⟩).isSome = true) ∧ ∀ p, W0.frozen? ⟨n + 1, p, none⟩ = false) := by
    rw [← hW0]
    have h1 : ∀ (A : World) (cs : Array Value) (t : TypeId) (o : Obj) (B : World), A.heap.size = n + 1 → ((A.alloc (.cells cs t)).alloc o).heap[n + 1]? = some (.cells cs t) := by
      intro A cs t o B hA
      rw [Below.heap_alloc _ _ _ (by simp; omega), ← hA, World.alloc_heap_new]
    constructor
    · intro p hp
      unfold World.cell?
      rw [h1 _ _ _ _ w (by simp; omega)]
      simp
      exact hp
    · intro p
      unfold World.frozen?
      rw [h1 _ _ _ _ w (by simp; omega)]
      simp
  clear hW0
  go_loopw [20] (fun i wr => ∃ k : Nat, k ≤ 13 ∧ i = .int .i64 k ∧ Hid (∃ cs, Cp w vs u n k cs wr) ∧ Hid (Mv (fun j => j = n) W0 wr)) (fun i _ => 13 - (intOf i).toNat)
  case atStart => exact ⟨0, by omega, rfl, hcp, Mv.refl _ _⟩
  case round =>
    obtain ⟨k, hk, rfl, hc, hm⟩ := hrel
    obtain ⟨cs, hc⟩ := hc.out
    by_cases hlt : k < 13
    · obtain ⟨p, hp⟩ : ∃ p, posL[k]? = some p := ⟨_, List.getElem?_eq_getElem hlt⟩
      have c1 := hc.pt k p hp
      obtain ⟨v, hv, hnr⟩ := huH.out.ls k p hp
      have hv2 : cs[p]? = some v := (hc.old p (fun i hi => by rw [posL_inj hi hp]; exact Nat.le_refl _)).trans hv
      have c2 := hc.cel p v hv2
      have hnr2 := hnr.mv hc.mv (fun b hb e => by have := hnr.lt hb; have := hc.hn; omega)
      have hcl := clone_any v (u.ls k) wr hnr2
      have hcH := hidP hc
      have hpH := hidP hp
      have hz := hc.hz
      clear hc hp hv hv2 hnr hnr2
      go_wp2_with fail
      refine hcl.mono ?_
      rintro e w1 ⟨v', rfl, hn1, hf1, hb1⟩
      have c3 : w1.cell? ⟨n, p, none⟩ = some v := (Mv.below (E := fun _ => False) hb1).cell (fun h => h) c2
      have f3 : w1.frozen? ⟨n, p, none⟩ = false := ((Mv.below (E := fun _ => False) hb1).froz (a := ⟨n, p, none⟩) (fun h => h) (by show n < _; omega)).trans (hcH.out.fz p)
      have fin : Hid (∃ cs, Cp w vs u n (k + 1) cs (w1.setCell ⟨n, p, none⟩ v')) := ⟨_, hcH.out.step hpH.out hn1 hf1 hb1⟩
      have hm2 : Hid (Mv (fun j => j = n) W0 (w1.setCell ⟨n, p, none⟩ v')) := (hm.out.trans' (Mv.below hb1)).setc (p := ⟨n, p, none⟩) (.inl rfl) _
      have hst : (storeCells ⟨n, p, none⟩ [v']).run Tryz.prog w1 = .ok () (w1.setCell ⟨n, p, none⟩ v') := by
        have := run_storeCells_cells (P := Tryz.prog) n p [v'] 0 w1 (fun j hj => by obtain rfl : j = 0 := (by simpa using hj); simp [c3]) (fun j hj => by obtain rfl : j = 0 := (by simpa using hj); simp [f3]) (fun v hv => by simp at hv; subst hv; exact hn1.one)
        exact this
      clear hn1 hf1 hb1 c1 c2 c3 f3 hcl
      go_wp2_with (rw [hst])
      exact ⟨⟨k + 1, by omega, by go_num, fin, hm2⟩, by simp [intOf]; omega⟩
    · obtain rfl : k = 13 := by omega
      obtain ⟨hU, hB⟩ := hc.done huH.out
      have hld := hc.cel.load hU.sz
      have hm' := hm.out
      obtain ⟨W2, hst, hU2, mv2⟩ := Ub.store (P := Tryz.prog) (n := n + 1) (w := wr) hU.sz hU.on (fun p hp => by
        obtain ⟨x, hx⟩ := Option.isSome_iff_exists.1 (hzu.out.1 p hp)
        rw [hm'.cell (a := ⟨n + 1, p, none⟩) (by show ¬ n + 1 = n; omega) hx]; rfl) (fun p => by
        obtain ⟨x, hx⟩ := Option.isSome_iff_exists.1 (hzu.out.1 0 (by omega))
        have := cell_lt hx
        exact (hm'.froz (a := ⟨n + 1, p, none⟩) (by show ¬ n + 1 = n; omega) this).trans (hzu.out.2 p))
      have hld2 := hU2.load hU.sz
      have hn' := hc.hn
      have fin : Hid (∃ cs', Ending.returned (.agg cs) = .returned (.agg cs') ∧ UV W2 cs' u ∧ (∀ b, ubk cs' b → w.heap.size ≤ b) ∧ Below w.heap.size w W2) := by
        refine ⟨cs, rfl, hU.mv mv2 (fun b hb e => by have := hB b hb; omega), fun b hb => by have := hB b hb; omega, ?_⟩
        · exact ((hc.mv.mono (E' := fun k => k = n ∨ k = n + 1) (fun k _ e => .inl e)).trans' (mv2.mono (fun k _ e => .inr e))).toBelow (Nat.le_refl _) (fun k hk e => by omega)
      have hsz2 := hU.sz
      clear hU hB hc hm' mv2 hU2 hzu hm
      go_wp2_with (first | refine wpList_loadU rfl _ rfl _ rfl _ hld ?_ | refine wpList_storeU rfl _ _ rfl _ rfl _ rfl hsz2 hst ?_)
      refine bodyPost_ret (v := .agg cs) (by simp [results, Tryz.results59, Act.put]; exact loadVarU hld2) rfl ?_
      exact fin.out
end Go.Proofs.YtedgnigogkmgkaaGreatDoor
