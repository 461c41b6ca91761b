import Derived.Test.YtcfclknfnadgcaaDoorBag
import Derived.Test.YtcfclknfnadgcaaDoorBah
import Derived.Test.YtcfclknfnadgcaaDoorBai
import Derived.Test.YtcfclknfnadgcaaDoorBaf
import Derived.Test.YtcfclknfnadgcaaDoorIt
/- GraphFull, plainly: the names of the units that it adds. -/
namespace Go.Proofs.YtcfclknfnadgcaaDoor
open Go.RowKit Go.Shelf Go.Lib
def ltrs : ByteArray := ⟨#[97, 98, 99, 100, 101, 102, 103, 104, 105, 106, 107, 108, 109, 110, 111, 112, 113, 114, 115, 116, 117, 118, 119, 120, 121, 122, 65, 66, 67, 68, 69, 70, 71, 72, 73, 74, 75, 76, 77, 78, 79, 80, 81, 82, 83, 84, 85, 86, 87, 88, 89, 90]⟩
def tgt : ByteArray := ⟨#[46, 116, 97, 114, 103, 101, 116]⟩
def nmF (i : Nat) : ByteArray := ltrs.extract i (i + 1) ++ tgt
theorem nmF_is : ∀ i : Fin 50, isN (nmF i.1) = true := by decide +kernel
theorem nmF_inj : ∀ i j : Fin 50, nmF i.1 = nmF j.1 → i = j := by decide +kernel
theorem nmF_size : ∀ i : Fin 50, (nmF i.1).size = 8 := by decide +kernel
theorem tol_target (nm : ByteArray) (li : ByteArray) : tolU (unU nm 6 [] [] nilV nilV false li) = [] := by
  unfold tolU relsU rels7 relsT relsD hasTg unU edR
  simp
theorem rel_target (nm : ByteArray) (li : ByteArray) : ∀ r ∈ relsU (unU nm 6 [] [] nilV nilV false li), ∀ s ∈ r.2.2, s.size ≤ 2000000 := by
  have : relsU (unU nm 6 [] [] nilV nilV false li) = [(1, false, []), (2, false, []), (3, false, []), (4, false, []), (5, false, []), (6, false, []), (6, true, []), (6, false, []), (6, false, [])] := by
    unfold relsU rels7 relsT relsD hasTg unU
    simp
  rw [this]
  intro r hr s hs
  simp only [List.mem_cons, List.not_mem_nil, or_false] at hr
  rcases hr with rfl | rfl | rfl | rfl | rfl | rfl | rfl | rfl | rfl <;> cases hs
theorem lit_none {w : World} (nm li : ByteArray) : UV w (litU nm 6 nilV nilV false li) (unU nm 6 [] [] nilV nilV false li) := lit_uv w nm 6 [] [] nilV nilV false li (.inl ⟨rfl, none, 0, rfl⟩) (.inl ⟨rfl, none, 0, rfl⟩)
theorem lit_nob {nm li : ByteArray} {b : Nat} (h : ubk (litU nm 6 nilV nilV false li) b) : False := by
  rcases lit_ubk h with r | r <;> cases r
/-- Where GraphFull stands: min i 40 units are there. -/
structure FI (B gb i : Nat) (w0 w : World) (S : GS) (L : UL) : Prop where
  g : Gs w S L
  hgb : S.gb = gb
  c0 : S.c = 0
  len : L.length = min i 40
  mem : ∀ x, (lku L x).isSome = true ↔ ∃ j, j < min i 40 ∧ nmF j = x
  tol : ∀ p ∈ L, tolU p.2 = []
  lo : ∀ k, hasG S k → B ≤ k
  hB : w0.heap.size = B
  bl : Below B w0 w
theorem FI.below {B gb i : Nat} {w0 w v : World} {S : GS} {L : UL} (h : FI B gb i w0 w S L) (b : Below w.heap.size w v) : FI B gb i w0 v S L :=
  ⟨h.g.below b, h.hgb, h.c0, h.len, h.mem, h.tol, h.lo, h.hB, h.bl.trans (b.mono (by have := h.bl.size; have := h.hB; omega))⟩
theorem FI.add {B gb i : Nat} {w0 w v : World} {S S' : GS} {L : UL} {cs : Array Value} (h : FI B gb i w0 w S L) (hi : i < 40) (hG : Gs v S' ((cs, unU (nmF i) 6 [] [] nilV nilV false ⟨#[]⟩) :: L)) (hgo : GsGo S w S' v 0) : FI B gb (i + 1) w0 v S' ((cs, unU (nmF i) 6 [] [] nilV nilV false ⟨#[]⟩) :: L) := by
  have hs := h.bl.size
  have hB := h.hB
  refine ⟨hG, hgo.gb.trans h.hgb, by have := hgo.c; have := h.c0; omega, by rw [List.length_cons, h.len]; omega, fun x => ?_, fun p hp => ?_, fun k hk => ?_, h.hB, h.bl.trans (hgo.mv.toBelow (by omega) (fun k hk q => by have := h.lo k q; omega))⟩
  · rw [lku_cons]
    by_cases e : (cs, unU (nmF i) 6 [] [] nilV nilV false ⟨#[]⟩).2.nm = x
    · rw [if_pos e]
      exact ⟨fun _ => ⟨i, by omega, e⟩, fun _ => rfl⟩
    · rw [if_neg e, h.mem x]
      constructor
      · rintro ⟨j, h1, h2⟩; exact ⟨j, by omega, h2⟩
      · rintro ⟨j, h1, h2⟩
        refine ⟨j, ?_, h2⟩
        rcases Nat.lt_or_ge j i with q | q
        · omega
        · obtain rfl : j = i := by omega
          exact absurd h2 e
  · rcases List.mem_cons.1 hp with rfl | hp
    · exact tol_target _ _
    · exact h.tol p hp
  · rcases hgo.gr k hk with r | r
    · exact h.lo k r
    · omega
end Go.Proofs.YtcfclknfnadgcaaDoor
/- A unit that came in is added, whatever comes of it. -/
namespace Go.Proofs.YtcfclknfnadgcaaDoor
open Go.RowKit Go.Shelf Go.Lib
/-- A graph of units that are looked at, all behind block B, in a world that has come from w0. -/
structure Ga (B gb : Nat) (w0 w : World) (S : GS) (L : UL) (n : Nat) : Prop where
  g : Gs w S L
  hgb : S.gb = gb
  be : Below B w0 w
  lo : ∀ k, hasG S k → B ≤ k
  fw : ∀ p ∈ L, FewS p.2
  len : L.length ≤ 40
  c : S.c ≤ n
theorem FewS.few {u : Un} (h : FewS u) : FewU u := fun i hi => (h.2.2.1 i hi).1
theorem FewS.rel {u : Un} (h : FewS u) : ∀ r ∈ relsU u, ∀ s ∈ r.2.2, s.size ≤ 2000000 := by
  intro r hr s hs
  have hl : ∀ i, i < 7 → ∀ x ∈ u.ls i, x.size ≤ 2000000 := fun i hi x hx => by have := (h.2.2.1 i hi).2 x hx; omega
  have ht := h.2.1
  unfold relsU at hr
  rcases List.mem_append.1 hr with hr | hr
  · rcases List.mem_append.1 hr with hr | hr
    · unfold rels7 at hr
      simp only [List.mem_cons, List.not_mem_nil, or_false] at hr
      rcases hr with rfl | rfl | rfl | rfl | rfl | rfl | rfl
      · exact hl 0 (by omega) s hs
      · exact hl 1 (by omega) s hs
      · exact hl 2 (by omega) s hs
      · exact hl 3 (by omega) s hs
      · exact hl 4 (by omega) s hs
      · exact hl 5 (by omega) s hs
      · exact hl 6 (by omega) s hs
    · unfold relsT at hr
      split at hr
      · simp only [List.mem_cons, List.not_mem_nil, or_false] at hr
        rcases hr with rfl | rfl
        all_goals
          simp only [List.mem_cons, List.not_mem_nil, or_false] at hs
          subst hs; omega
      · cases hr
  · unfold relsD at hr
    split at hr
    · cases hr
    · split at hr
      · simp only [List.mem_cons, List.not_mem_nil, or_false] at hr
        rcases hr with rfl | rfl
        · exact hl 0 (by omega) s hs
        · exact hl 1 (by omega) s hs
      · simp only [List.mem_cons, List.not_mem_nil, or_false] at hr
        have e : sdn.size ≤ 2000000 := by decide
        rcases hr with rfl | rfl
        all_goals
          simp only [List.mem_cons, List.not_mem_nil, or_false] at hs
          subst hs; exact e
theorem Ga.below {B gb n : Nat} {w0 w w' : World} {S : GS} {L : UL} (h : Ga B gb w0 w S L n) (b : Below w.heap.size w w') (hB : B ≤ w0.heap.size) : Ga B gb w0 w' S L n :=
  ⟨h.g.below b, h.hgb, h.be.trans (b.mono (Nat.le_trans hB h.be.size)), h.lo, h.fw, h.len, h.c⟩
theorem Ga.go {B gb n m : Nat} {w0 w w' : World} {S S' : GS} {L L' : UL} (h : Ga B gb w0 w S L n) (hB : B ≤ w0.heap.size) (g : Gs w' S' L') (go : GsGo S w S' w' m) (hf : ∀ p ∈ L', FewS p.2) (hl : L'.length ≤ 40) : Ga B gb w0 w' S' L' (n + m) := by
  have hs := Nat.le_trans hB h.be.size
  refine ⟨g, go.gb.trans h.hgb, ?_, fun k hk => ?_, hf, hl, by have := go.c; have := h.c; omega⟩
  · exact h.be.trans (go.mv.toBelow hs (fun k hk e => by have := h.lo k e; omega))
  · rcases go.gr k hk with q | q
    · exact h.lo k q
    · omega
theorem rmU_lt {L : UL} {x : ByteArray} {op : Array Value × Un} (h : lku L x = some op) : (rmU L x).length < L.length := by
  obtain ⟨m, e⟩ := lku_mem h
  exact List.length_filter_lt_length_iff_exists.2 ⟨op, m, by simp [e]⟩
/-- What Add answers is one thing; the graph is a graph of units that are looked at still. -/
theorem add_any {B gb n : Nat} {w0 w : World} {S : GS} {L : UL} (h : Ga B gb w0 w S L n) (hB : B ≤ w0.heap.size) (hn : n ≤ 100000) (vs : Array Value) (u : Un) (hu : UW w vs u) (hf : FewS u) (hgl : GlN w)
    (_e0 : 0 < B) (e1 : 1 < B) (eu : ∀ b, ubk vs b → b < B) :
    Calls Tryd.prog 9 #[.pointer (some ⟨gb, 0, none⟩), .agg vs] w fun e w' => ∃ r S' L', e = .returned (.int .i64 r) ∧ Ga B gb w0 w' S' L' (n + 600) := by
  have hv := hu.uv fun i hi => by have := hf.2.2.2 i hi; omega
  have hgb := h.hgb
  have ht := tol_len hf.few
  have nE0 : ¬ hasG S 0 := fun q => by have := h.lo _ q; omega
  have nE1 : ¬ hasG S 1 := fun q => by have := h.lo _ q; omega
  have nU : ∀ b, ubk vs b → ¬ hasG S b := fun b hb q => by have := h.lo _ q; have := eu b hb; omega
  have hc := h.c
  cases his : isN u.nm with
  | false =>
    have hA := add_bad S vs u w hv his (by have := hf.1; omega) hgl
    rw [hgb] at hA
    refine hA.mono ?_
    rintro e w' ⟨rfl, b⟩
    have := h.below b hB
    exact ⟨_, S, L, rfl, { this with c := by have := this.c; omega }⟩
  | true =>
    cases hlk : lku L u.nm with
    | none =>
      by_cases h40 : L.length < 40
      · have hA := add_new S L vs u w h.g hv his hlk h40 hf.rel (by omega) hgl nE0 nE1 nU
        rw [hgb] at hA
        refine hA.mono ?_
        rintro e w' ⟨rfl, S', cs, g, go, _⟩
        have q := h.go hB g go (fun p hp => by
          rcases List.mem_cons.1 hp with rfl | hp
          · exact hf
          · exact h.fw p hp) (by simp; omega)
        exact ⟨_, S', _, rfl, { q with c := by have := q.c; omega }⟩
      · have hA := add_full S L vs u w h.g hv his hlk (by omega) (by have := h.len; omega) hgl
        rw [hgb] at hA
        refine hA.mono ?_
        rintro e w' ⟨rfl, b⟩
        have := h.below b hB
        exact ⟨_, S, L, rfl, { this with c := by have := this.c; omega }⟩
    | some op =>
      obtain ⟨m1, _⟩ := lku_mem hlk
      have ho := tol_len (h.fw op m1).few
      have hA := add_old S L vs u w h.g hv his hlk h.len hf.rel (by omega) hgl nE0 nE1 nU
      rw [hgb] at hA
      refine hA.mono ?_
      rintro e w' ⟨rfl, S', cs, g, go, _⟩
      have hsub : ∀ p ∈ rmU L u.nm, p ∈ L := fun p hp => (List.mem_filter.1 hp).1
      have hlt : (rmU L u.nm).length < L.length := rmU_lt hlk
      have q := h.go hB g go (fun p hp => by
        rcases List.mem_cons.1 hp with rfl | hp
        · exact hf
        · exact h.fw p (hsub p hp)) (by have := h.len; simp; omega)
      exact ⟨_, S', _, rfl, { q with c := by have := q.c; omega }⟩
end Go.Proofs.YtcfclknfnadgcaaDoor
/- Rows whose order nobody knows. -/
namespace Go.Proofs.YtcfclknfnadgcaaDoor
open Go.RowKit Go.Shelf
/-- A row, for takers to whom the order is all one. -/
def RowP (P : Program) {α : Type} (g : Nat) (lb : Array Value) (enc : α → Array Value) (xs : List α) (E : Nat → Prop) (W : World) : Prop :=
  ∀ (l : Nat) (J : List α → (Nat → Prop) → World → Prop) (Jx : Unit → (Nat → Prop) → World → Prop) (E1 : Nat → Prop) (V : World),
    Mv E W V → Gr E W E1 → Ter V.heap.size J → Ter V.heap.size Jx → (∀ s s' E W, s.Perm s' → J s E W → J s' E W) → Yi P l enc J Jx → J xs E1 V →
    Calls P g (#[.func (.yield l) #[] #[]] ++ lb) V (Went J Jx E1 V)
theorem loop_outP {P : Program} {α : Type} {n : Nat} {g : Operand} {ps : Array Tmp} {assign body : Code} {Q : Exit → Act → World → Prop} {a : Act} {w : World} {gf : Nat} {lb : Array Value}
    (hg : a.eval g = .func (.func gf) #[] lb) (eg : ∀ args w, (callFunc gf args).run P w = .ok (.enter gf args) w) {enc : α → Array Value} {xs : List α} {E : Nat → Prop}
    (hrow : RowP P gf lb enc xs E w) (hps : ∀ x, (enc x).size = ps.size) (I : List α → (Nat → Prop) → World → Prop) (hpm : ∀ s s' E W, s.Perm s' → I s E W → I s' E W) (Ix : Code → (Nat → Prop) → World → Prop) (hI : Ter w.heap.size I) (hIx : Ter w.heap.size Ix) (h0 : I xs E w)
    (hround : ∀ l, w.heap.size ≤ l → RoundOk P ps assign body enc I Ix a.tmps E w l)
    (hdone : ∀ D E' W, w.heap.size ≤ D → W.heap[D]? = some (.deferred (some [])) → ¬ E' D → Mv E w W → Gr E w E' → I [] E' W → Q .normal { a with defers := { target := .collected D, args := #[] } :: a.defers } W)
    (hstop : ∀ D c E' W, w.heap.size ≤ D → W.heap[D]? = some (.deferred (some [])) → ¬ E' D → Mv E w W → Gr E w E' → Ix c E' W → c.wpIn Fence.wide n P Q { a with defers := { target := .collected D, args := #[] } :: a.defers } W) :
    (Code.rangeFunc g ps assign body).wpIn Fence.wide n P Q a w := by
  refine wpIn_rangeFunc ?_
  intro fn _
  have hlow := hI.low _ _ _ h0
  obtain ⟨W1, hW1⟩ : ∃ W1, (w.alloc (.deferred (some []))).alloc (.loop { state := .ready, pending := none, fn := fn, tmps := a.tmps, params := ps, assign := assign, body := body, defers := w.heap.size }) = W1 := ⟨_, rfl⟩
  have hL1 : W1.heap[w.heap.size + 1]? = some (.loop { state := .ready, pending := none, fn := fn, tmps := a.tmps, params := ps, assign := assign, body := body, defers := w.heap.size }) := by
    rw [← hW1]; have := World.alloc_heap_new (w.alloc (.deferred (some []))) (.loop { state := .ready, pending := none, fn := fn, tmps := a.tmps, params := ps, assign := assign, body := body, defers := w.heap.size }); rwa [World.size_alloc] at this
  have hK1 : W1.heap[w.heap.size]? = some (.deferred (some [])) := by
    rw [← hW1]; exact (Below.heap_alloc _ _ _ (by simp)).trans (World.alloc_heap_new w _)
  have hs1 : W1.heap.size = w.heap.size + 2 := by rw [← hW1]; simp
  have m1 : Mv E w W1 := by rw [← hW1]; exact (Mv.alloc _ _ _).trans' (Mv.alloc _ _ _)
  have g1 : Gr E w (fun k => E k ∨ k = w.heap.size + 1) := fun k hk => hk.imp id (fun e => by omega)
  refine ⟨w.heap.size + 1, [{ target := .collected w.heap.size, args := #[] }], W1, { target := .fn (.func gf) lb, args := #[.func (.yield (w.heap.size + 1)) #[] #[]] }, W1, gf, #[.func (.yield (w.heap.size + 1)) #[] #[]] ++ lb, W1, ?_, ?_, fun _ _ => trivial, ?_, fun h => (by cases h), callsIn_wide.2 ?_⟩
  · rw [← hW1]; exact run_enterLoop_outer _ _ _ _ _
  · simp only [resolve, hg]
    simp [go_sem]
  · simp [invoke, go_sem, eg]
  · refine (hrow (w.heap.size + 1) _ _ (fun k => E k ∨ k = w.heap.size + 1) W1 m1 g1 ?_ ?_ ?_ (yi_of_round (fn := fn) (D := w.heap.size) (by omega) (by omega) hI hIx hps (hround _ (by omega))) ?_).mono ?_
    · refine ⟨fun s E1 W V h m => ?_, fun s E1 W h k hk => ?_⟩
      · obtain ⟨E0, hE, hEl, ⟨hi, hmw, hgw⟩, hl⟩ := h
        refine ⟨E0, hE, hEl, ⟨hI.keep _ _ _ _ hi (m.out (fun k _ h => ⟨fun e => h.1 ((hE k).2 (.inl e)), by omega⟩)), ?_, hgw⟩, ?_⟩
        · exact ⟨m.os.trans hmw.os, m.tape.trans hmw.tape, m.output.trans hmw.output, Nat.le_trans hmw.size m.size, fun k hk he => (m.block k (Nat.lt_of_lt_of_le hk hmw.size) (fun h => by omega)).trans (hmw.block k hk he)⟩
        · exact (m.block _ (Array.getElem?_eq_some_iff.1 hl).1 (fun h => h.1 ((hE _).2 (.inr rfl)))).trans hl
      · obtain ⟨E0, hE, hEl, ⟨hi, hmw, hgw⟩, hl⟩ := h
        rcases (hE k).1 hk with h | rfl
        · exact hI.low _ _ _ hi k h
        · exact (Array.getElem?_eq_some_iff.1 hl).1
    · refine ⟨fun s E1 W V h m => ?_, fun s E1 W h k hk => ?_⟩
      · obtain ⟨E0, c, hE, hEl, ⟨hi, hmw, hgw⟩, hl⟩ := h
        refine ⟨E0, c, hE, hEl, ⟨hIx.keep _ _ _ _ hi (m.out (fun k _ h => ⟨fun e => h.1 ((hE k).2 (.inl e)), by omega⟩)), ?_, hgw⟩, ?_⟩
        · exact ⟨m.os.trans hmw.os, m.tape.trans hmw.tape, m.output.trans hmw.output, Nat.le_trans hmw.size m.size, fun k hk he => (m.block k (Nat.lt_of_lt_of_le hk hmw.size) (fun h => by omega)).trans (hmw.block k hk he)⟩
        · exact (m.block _ (Array.getElem?_eq_some_iff.1 hl).1 (fun h => h.1 ((hE _).2 (.inr rfl)))).trans hl
      · obtain ⟨E0, c, hE, hEl, ⟨hi, hmw, hgw⟩, hl⟩ := h
        rcases (hE k).1 hk with h | rfl
        · exact hIx.low _ _ _ hi k h
        · exact (Array.getElem?_eq_some_iff.1 hl).1
    · rintro s s' E1 W hp ⟨E0, hE, hEl, ⟨hi, hmw, hgw⟩, hl⟩
      exact ⟨E0, hE, hEl, ⟨hpm _ _ _ _ hp hi, hmw, hgw⟩, hl⟩
    · exact ⟨E, fun k => Iff.rfl, fun h => by have := hlow _ h; omega, ⟨hI.keep _ _ _ _ h0 (by rw [← hW1]; exact (Mv.alloc _ _ _).trans' (Mv.alloc _ _ _)), m1, Gr.refl _ _⟩, hL1⟩
    · rintro e W2 ⟨⟨v, rfl⟩, m2, (⟨E1, g2, E0, hE, hEl, ⟨hi, mW, gW⟩, hl⟩ | ⟨E1, g2, E0, c, hE, hEl, ⟨hi, mW, gW⟩, hl⟩)⟩
      all_goals
        have hKD : W2.heap[w.heap.size]? = some (.deferred (some [])) := (m2.block _ (by omega) (fun h => by rcases h with h | h; exact absurd (hlow _ h) (by omega); omega)).trans hK1
        have nD : ¬ E0 w.heap.size := fun h => by
          rcases g2 _ ((hE _).2 (.inl h)) with (h | h) | h
          · exact absurd (hlow _ h) (by omega)
          · omega
          · omega
      · refine ⟨none, _, run_endLoop hl (by simp), ?_⟩
        exact hdone w.heap.size E0 _ (Nat.le_refl _) ((World.putObj_heap_other (by omega)).trans hKD) nD (mW.put_new (by omega) _) gW (hI.keep _ _ _ _ hi (.put ⟨hEl, by omega⟩ _))
      · refine ⟨some c, _, run_endLoop hl (by simp), ?_⟩
        exact hstop w.heap.size c E0 _ (Nat.le_refl _) ((World.putObj_heap_other (by omega)).trans hKD) nD (mW.put_new (by omega) _) gW (hIx.keep _ _ _ _ hi (.put ⟨hEl, by omega⟩ _))
end Go.Proofs.YtcfclknfnadgcaaDoor
