/- The law of a loop over a row that turns its own block. -/
import Derived.Test.YtnniahlacfflmaaDoorTS1
namespace Go.Proofs.YtnniahlacfflmaaDoor
open Go.RowKit Go.Shelf
attribute [local go_sem] Oper.semAt_some
/-- A loop over a row that turns its own block, outside of all rounds. -/
theorem loop_outB {P : Program} {α : Type} {n : Nat} {g : Operand} {ps : Array Tmp} {assign body : Code} {Q : Exit → Act → World → Prop} {a : Act} {w : World} {gf : Nat} {lb : Array Value}
    (hg : a.eval g = .func (.func gf) #[] lb) (eg : ∀ args w, (callFunc gf args).run P w = .ok (.enter gf args) w) {enc : α → Array Value} {xs : List α} {E : Nat → Prop}
    {o : Nat} (w0 : World) (hw0 : Mv E w0 w) (ho : o < w.heap.size) (hrow : RowB P gf lb enc xs o w0.heap.size E w) (hps : ∀ x, (enc x).size = ps.size) (I : List α → (Nat → Prop) → World → Prop) (Ix : Code → (Nat → Prop) → World → Prop) (hI : Ter w0.heap.size I) (hIx : Ter w0.heap.size Ix) (h0 : I xs E w)
    (hround : ∀ l, w.heap.size ≤ l → RoundOk P ps assign body enc I Ix a.tmps E w0 l)
    (hdone : ∀ D E' W, w.heap.size ≤ D → W.heap[D]? = some (.deferred (some [])) → ¬ E' D → Mv E w0 W → Gr E w0 E' → I [] E' W → Q .normal { a with defers := { target := .collected D, args := #[] } :: a.defers } W)
    (hstop : ∀ D c E' W, w.heap.size ≤ D → W.heap[D]? = some (.deferred (some [])) → ¬ E' D → Mv E w0 W → Gr E w0 E' → Ix c E' W → c.wpIn Fence.wide n P Q { a with defers := { target := .collected D, args := #[] } :: a.defers } W) :
    (Code.rangeFunc g ps assign body).wpIn Fence.wide n P Q a w := by
  refine wpIn_rangeFunc ?_
  intro fn _
  have hlow := hI.low _ _ _ h0
  have hw0s := hw0.size
  obtain ⟨W1, hW1⟩ : ∃ W1, (w.alloc (.deferred (some []))).alloc (.loop { state := .ready, pending := none, fn := fn, tmps := a.tmps, params := ps, assign := assign, body := body, defers := w.heap.size }) = W1 := ⟨_, rfl⟩
  have hL1 : W1.heap[w.heap.size + 1]? = some (.loop { state := .ready, pending := none, fn := fn, tmps := a.tmps, params := ps, assign := assign, body := body, defers := w.heap.size }) := by
    rw [← hW1]; have := World.alloc_heap_new (w.alloc (.deferred (some []))) (.loop { state := .ready, pending := none, fn := fn, tmps := a.tmps, params := ps, assign := assign, body := body, defers := w.heap.size }); rwa [World.size_alloc] at this
  have hK1 : W1.heap[w.heap.size]? = some (.deferred (some [])) := by
    rw [← hW1]; exact (Below.heap_alloc _ _ _ (by simp)).trans (World.alloc_heap_new w _)
  have hs1 : W1.heap.size = w.heap.size + 2 := by rw [← hW1]; simp
  have m1 : Mv E w W1 := by rw [← hW1]; exact (Mv.alloc _ _ _).trans' (Mv.alloc _ _ _)
  have g1 : Gr E w (fun k => E k ∨ k = w.heap.size + 1) := fun k hk => hk.imp id (fun e => by omega)
  refine ⟨w.heap.size + 1, [{ target := .collected w.heap.size, args := #[] }], W1, { target := .fn (.func gf) lb, args := #[.func (.yield (w.heap.size + 1)) #[] #[]] }, W1, gf, #[.func (.yield (w.heap.size + 1)) #[] #[]] ++ lb, W1, ?_, ?_, fun _ _ => trivial, ?_, fun h => (by cases h), callsIn_wide.2 ?_⟩
  · rw [← hW1]; exact run_enterLoop_outer _ _ _ _ _
  · simp only [resolve, hg]
    simp [go_sem]
  · simp [invoke, go_sem, eg]
  · refine (hrow (w.heap.size + 1) _ _ (fun k => E k ∨ k = w.heap.size + 1) W1 m1 g1 ?_ ?_ (yi_of_round (fn := fn) (D := w.heap.size) (by omega) (by omega) hI hIx hps (hround _ (by omega))) ?_).mono ?_
    · refine ⟨fun s E1 W V h m => ?_, fun s E1 W h k hk => ?_⟩
      · obtain ⟨E0, hE, hEl, ⟨hi, hmw, hgw⟩, hl⟩ := h
        refine ⟨E0, hE, hEl, ⟨hI.keep _ _ _ _ hi (m.out (fun k _ h => ⟨fun e => h.1 ((hE k).2 (.inl e)), by omega⟩)), ?_, hgw⟩, ?_⟩
        · exact ⟨m.os.trans hmw.os, m.tape.trans hmw.tape, m.output.trans hmw.output, Nat.le_trans hmw.size m.size, fun k hk he => (m.block k (Nat.lt_of_lt_of_le hk hmw.size) (fun h => by omega)).trans (hmw.block k hk he)⟩
        · exact (m.block _ (Array.getElem?_eq_some_iff.1 hl).1 (fun h => h.1 ((hE _).2 (.inr rfl)))).trans hl
      · obtain ⟨E0, hE, hEl, ⟨hi, hmw, hgw⟩, hl⟩ := h
        rcases (hE k).1 hk with h | rfl
        · exact hI.low _ _ _ hi k h
        · exact (Array.getElem?_eq_some_iff.1 hl).1
    · refine ⟨fun s E1 W V h m => ?_, fun s E1 W h k hk => ?_⟩
      · obtain ⟨E0, c, hE, hEl, ⟨hi, hmw, hgw⟩, hl⟩ := h
        refine ⟨E0, c, hE, hEl, ⟨hIx.keep _ _ _ _ hi (m.out (fun k _ h => ⟨fun e => h.1 ((hE k).2 (.inl e)), by omega⟩)), ?_, hgw⟩, ?_⟩
        · exact ⟨m.os.trans hmw.os, m.tape.trans hmw.tape, m.output.trans hmw.output, Nat.le_trans hmw.size m.size, fun k hk he => (m.block k (Nat.lt_of_lt_of_le hk hmw.size) (fun h => by omega)).trans (hmw.block k hk he)⟩
        · exact (m.block _ (Array.getElem?_eq_some_iff.1 hl).1 (fun h => h.1 ((hE _).2 (.inr rfl)))).trans hl
      · obtain ⟨E0, c, hE, hEl, ⟨hi, hmw, hgw⟩, hl⟩ := h
        rcases (hE k).1 hk with h | rfl
        · exact hIx.low _ _ _ hi k h
        · exact (Array.getElem?_eq_some_iff.1 hl).1
    · exact ⟨E, fun k => Iff.rfl, fun h => by have := hlow _ h; omega, ⟨hI.keep _ _ _ _ h0 (by rw [← hW1]; exact (Mv.alloc _ _ _).trans' (Mv.alloc _ _ _)), hw0.trans' m1, Gr.refl _ _⟩, hL1⟩
    · rintro e W2 ⟨⟨v, rfl⟩, m2, (⟨E1, g2, E0, hE, hEl, ⟨hi, mW, gW⟩, hl⟩ | ⟨E1, g2, E0, c, hE, hEl, ⟨hi, mW, gW⟩, hl⟩)⟩
      all_goals
        have hKD : W2.heap[w.heap.size]? = some (.deferred (some [])) := (m2.block _ (by omega) (fun h => by rcases h with (h | h) | h; exact absurd (hlow _ h) (by omega); omega; omega)).trans hK1
        have nD : ¬ E0 w.heap.size := fun h => by
          rcases g2 _ ((hE _).2 (.inl h)) with (h | h) | h
          · exact absurd (hlow _ h) (by omega)
          · omega
          · omega
      · refine ⟨none, _, run_endLoop hl (by simp), ?_⟩
        exact hdone w.heap.size E0 _ (Nat.le_refl _) ((World.putObj_heap_other (by omega)).trans hKD) nD (mW.put_new (by omega) _) gW (hI.keep _ _ _ _ hi (.put ⟨hEl, by omega⟩ _))
      · refine ⟨some c, _, run_endLoop hl (by simp), ?_⟩
        exact hstop w.heap.size c E0 _ (Nat.le_refl _) ((World.putObj_heap_other (by omega)).trans hKD) nD (mW.put_new (by omega) _) gW (hIx.keep _ _ _ _ hi (.put ⟨hEl, by omega⟩ _))
end Go.Proofs.YtnniahlacfflmaaDoor
