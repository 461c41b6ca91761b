import Derived.Test.YtedgnigogkmgkaaGreatDoorBae
import Derived.Test.YtedgnigogkmgkaaGreatDoorIt
import Derived.Test.YtedgnigogkmgkaaGreatDoorBaa
import Derived.Maps.RangeWalk
import Derived.Laws.EntriesVeiled
import Derived.Test.YtedgnigogkmgkaaGreatDoorBab
import Derived.Test.YtedgnigogkmgkaaGreatDoorBad
/- What is reached, plainly. -/
namespace Go.Proofs.YtedgnigogkmgkaaGreatDoor
open Go.RowKit Go.Shelf Go.Lib
/-- Whether a name is in a row. -/
def memB (x : ByteArray) (X : List ByteArray) : Bool := X.any fun y => decide (y = x)
theorem memB_iff {x : ByteArray} {X : List ByteArray} : memB x X = true ↔ x ∈ X := by
  unfold memB
  rw [List.any_eq_true]
  constructor
  · rintro ⟨y, h1, h2⟩
    rw [decide_eq_true_iff] at h2
    exact h2 ▸ h1
  · intro h
    exact ⟨x, h, by simp⟩
theorem memB_t {x : ByteArray} {X : List ByteArray} (h : x ∈ X) : memB x X = true := memB_iff.2 h
theorem memB_f {x : ByteArray} {X : List ByteArray} (h : x ∉ X) : memB x X = false := by
  cases q : memB x X with
  | false => rfl
  | true => exact absurd (memB_iff.1 q) h
/-- Whether an edge of a kind leads on. -/
def led (k : Int) : Bool := (decide (1 ≤ k) && decide (k ≤ 5)) || decide (k = 8)
def Dom (L : UL) (x : ByteArray) : Prop := (lku L x).isSome = true
def Ld (L : UL) (y z : ByteArray) : Prop := ∃ k, led k = true ∧ kL L (k, y, z) ≠ 0
inductive Rch (L : UL) : ByteArray → ByteArray → Prop
  | refl (x) : Rch L x x
  | step (x y z) : Ld L x y → Dom L y → Rch L y z → Rch L x z
theorem Rch.tail {L : UL} {x y z : ByteArray} (h : Rch L x y) (h1 : Ld L y z) (h2 : Dom L z) : Rch L x z := by
  induction h with
  | refl x => exact .step _ _ _ h1 h2 (.refl _)
  | step a b c q1 q2 _ ih => exact .step _ _ _ q1 q2 (ih h1)
/-- What a visit of x makes of the set X. -/
structure Vis (L : UL) (X : List ByteArray) (x : ByteArray) (X' : List ByteArray) : Prop where
  sub : ∀ y ∈ X, y ∈ X'
  at_ : Dom L x → x ∈ X'
  new : ∀ y ∈ X', y ∉ X → Dom L x ∧ Dom L y ∧ Rch L x y ∧ ∀ z, Ld L y z → Dom L z → z ∈ X'
/-- Units that are not in the set yet. -/
def lft (L : UL) (X : List ByteArray) : Nat := (L.filter fun p => !memB p.2.nm X).length
theorem lft_cons (p : Array Value × Un) (L : UL) (X : List ByteArray) : lft (p :: L) X = if memB p.2.nm X = true then lft L X else lft L X + 1 := by
  unfold lft
  rw [List.filter_cons]
  cases memB p.2.nm X <;> simp
theorem lft_le {L : UL} {X Y : List ByteArray} (h : ∀ y ∈ X, y ∈ Y) : lft L Y ≤ lft L X := by
  induction L with
  | nil => exact Nat.le_refl _
  | cons p L ih =>
    rw [lft_cons, lft_cons]
    by_cases h1 : p.2.nm ∈ X
    · rw [if_pos (memB_t (h _ h1)), if_pos (memB_t h1)]; exact ih
    · rw [if_neg (by rw [memB_f h1]; decide : ¬ memB p.2.nm X = true)]
      split <;> omega
theorem lft_lt {L : UL} {X : List ByteArray} {x : ByteArray} (hx : Dom L x) (h : x ∉ X) : lft L (x :: X) < lft L X := by
  unfold Dom at hx
  obtain ⟨p, hp⟩ := Option.isSome_iff_exists.1 hx
  obtain ⟨h1, h2⟩ := lku_mem hp
  clear hp hx
  induction L with
  | nil => cases h1
  | cons q L ih =>
    have hle : lft L (x :: X) ≤ lft L X := lft_le fun y hy => List.mem_cons_of_mem _ hy
    rw [lft_cons, lft_cons]
    rcases List.mem_cons.1 h1 with e | e
    · subst e
      rw [if_pos (memB_t (by rw [h2]; exact List.mem_cons_self ..)), if_neg (by rw [h2, memB_f h]; decide)]
      omega
    · have ih := ih e
      by_cases h3 : q.2.nm ∈ X
      · rw [if_pos (memB_t (List.mem_cons_of_mem _ h3)), if_pos (memB_t h3)]; exact ih
      · rw [if_neg (by rw [memB_f h3]; decide : ¬ memB q.2.nm X = true)]
        split <;> omega
theorem Vis.stay {L : UL} {X : List ByteArray} {x : ByteArray} (h : ¬ Dom L x ∨ x ∈ X) : Vis L X x X :=
  ⟨fun _ h => h, fun q => h.elim (fun n => absurd q n) id, fun _ h1 h2 => absurd h1 h2⟩
/-- How far the edges of x (all of them: xs) have been gone through. -/
structure VI (L : UL) (X : List ByteArray) (x : ByteArray) (xs rest : List Ed) (X1 : List ByteArray) : Prop where
  sub : ∀ y ∈ X, y ∈ X1
  at_ : x ∈ X1
  new : ∀ y ∈ X1, y ∉ X → y ≠ x → Dom L y ∧ Rch L x y ∧ ∀ z, Ld L y z → Dom L z → z ∈ X1
  don : ∀ e ∈ xs, e ∈ rest ∨ (led e.1 = true → Dom L e.2.2 → e.2.2 ∈ X1)
theorem VI.start {L : UL} {X : List ByteArray} {x : ByteArray} {xs : List Ed} : VI L X x xs xs (x :: X) :=
  ⟨fun _ h => List.mem_cons_of_mem _ h, List.mem_cons_self .., fun _ h1 h2 h3 => (List.mem_cons.1 h1).elim (fun e => absurd e h3) (fun e => absurd e h2), fun _ h => .inl h⟩
theorem VI.perm {L : UL} {X : List ByteArray} {x : ByteArray} {xs s s' : List Ed} {X1 : List ByteArray} (h : VI L X x xs s X1) (hp : s.Perm s') : VI L X x xs s' X1 :=
  ⟨h.sub, h.at_, h.new, fun e he => (h.don e he).imp hp.mem_iff.1 id⟩
theorem VI.skip {L : UL} {X : List ByteArray} {x : ByteArray} {xs rest : List Ed} {e : Ed} {X1 : List ByteArray} (h : VI L X x xs (e :: rest) X1) (hk : led e.1 = false) : VI L X x xs rest X1 :=
  ⟨h.sub, h.at_, h.new, fun d hd => (h.don d hd).elim (fun q => (List.mem_cons.1 q).elim (fun q => .inr fun q2 => by rw [q, hk] at q2; cases q2) .inl) .inr⟩
theorem VI.step {L : UL} {X : List ByteArray} {x : ByteArray} {xs rest : List Ed} {e : Ed} {X1 X2 : List ByteArray} (h : VI L X x xs (e :: rest) X1) (hk : led e.1 = true) (hl : Ld L x e.2.2) (v : Vis L X1 e.2.2 X2) : VI L X x xs rest X2 := by
  refine ⟨fun y hy => v.sub _ (h.sub y hy), v.sub _ h.at_, fun y h1 h2 h3 => ?_, fun d hd => ?_⟩
  · by_cases hy : y ∈ X1
    · obtain ⟨q1, q2, q3⟩ := h.new y hy h2 h3
      exact ⟨q1, q2, fun z a b => v.sub _ (q3 z a b)⟩
    · obtain ⟨q0, q1, q2, q3⟩ := v.new y h1 hy
      exact ⟨q1, .step _ _ _ hl q0 q2, q3⟩
  · rcases h.don d hd with q | q
    · rcases List.mem_cons.1 q with q | q
      · subst q; exact .inr fun _ hd => v.at_ hd
      · exact .inl q
    · exact .inr fun a b => v.sub _ (q a b)
theorem VI.fin {L : UL} {X : List ByteArray} {x : ByteArray} {xs : List Ed} {X1 : List ByteArray} (h : VI L X x xs [] X1) (hd : Dom L x) (hx : ∀ e, e ∈ xs ↔ fw (kL L) x e ≠ 0) : Vis L X x X1 := by
  refine ⟨h.sub, fun _ => h.at_, fun y h1 h2 => ?_⟩
  by_cases e : y = x
  · subst e
    refine ⟨hd, hd, .refl _, fun z ⟨k, hk, hz⟩ dz => ?_⟩
    have hm : (k, y, z) ∈ xs := (hx _).2 (by have := fw_at (kL L) (k, y, z); rw [show fw (kL L) y (k, y, z) = kL L (k, y, z) from this]; exact hz)
    rcases h.don _ hm with q | q
    · cases q
    · exact q hk dz
  · exact ⟨hd, h.new y h1 h2 e⟩
/-- What is reached from a row of roots. -/
structure VR (L : UL) (rs : List ByteArray) (X : List ByteArray) : Prop where
  at_ : ∀ x ∈ rs, Dom L x → x ∈ X
  new : ∀ y ∈ X, Dom L y ∧ (∃ x ∈ rs, Dom L x ∧ Rch L x y) ∧ ∀ z, Ld L y z → Dom L z → z ∈ X
theorem VR.nil (L : UL) : VR L [] [] := ⟨fun _ h => (by cases h), fun _ h => (by cases h)⟩
theorem VR.add {L : UL} {rs X X' : List ByteArray} {x : ByteArray} (h : VR L rs X) (v : Vis L X x X') : VR L (rs ++ [x]) X' := by
  refine ⟨fun y hy hd => ?_, fun y hy => ?_⟩
  · rcases List.mem_append.1 hy with hy | hy
    · exact v.sub _ (h.at_ y hy hd)
    · obtain rfl := List.mem_singleton.1 hy
      exact v.at_ hd
  · by_cases q : y ∈ X
    · obtain ⟨q1, ⟨a, q2, q3⟩, q4⟩ := h.new y q
      exact ⟨q1, ⟨a, List.mem_append_left _ q2, q3⟩, fun z a b => v.sub _ (q4 z a b)⟩
    · obtain ⟨q0, q1, q2, q3⟩ := v.new y hy q
      exact ⟨q1, ⟨x, List.mem_append_right _ (List.mem_singleton.2 rfl), q0, q2⟩, q3⟩
end Go.Proofs.YtedgnigogkmgkaaGreatDoor
/- Rows whose order nobody knows. -/
namespace Go.Proofs.YtedgnigogkmgkaaGreatDoor
open Go.RowKit Go.Shelf
/-- A row, for takers to whom the order is all one. -/
def RowP (P : Program) {α : Type} (g : Nat) (lb : Array Value) (enc : α → Array Value) (xs : List α) (E : Nat → Prop) (W : World) : Prop :=
  ∀ (l : Nat) (J : List α → (Nat → Prop) → World → Prop) (Jx : Unit → (Nat → Prop) → World → Prop) (E1 : Nat → Prop) (V : World),
    Mv E W V → Gr E W E1 → Ter V.heap.size J → Ter V.heap.size Jx → (∀ s s' E W, s.Perm s' → J s E W → J s' E W) → Yi P l enc J Jx → J xs E1 V →
    Calls P g (#[.func (.yield l) #[] #[]] ++ lb) V (Went J Jx E1 V)
theorem loop_outP {P : Program} {α : Type} {n : Nat} {g : Operand} {ps : Array Tmp} {assign body : Code} {Q : Exit → Act → World → Prop} {a : Act} {w : World} {gf : Nat} {lb : Array Value}
    (hg : a.eval g = .func (.func gf) #[] lb) (eg : ∀ args w, (callFunc gf args).run P w = .ok (.enter gf args) w) {enc : α → Array Value} {xs : List α} {E : Nat → Prop}
    (hrow : RowP P gf lb enc xs E w) (hps : ∀ x, (enc x).size = ps.size) (I : List α → (Nat → Prop) → World → Prop) (hpm : ∀ s s' E W, s.Perm s' → I s E W → I s' E W) (Ix : Code → (Nat → Prop) → World → Prop) (hI : Ter w.heap.size I) (hIx : Ter w.heap.size Ix) (h0 : I xs E w)
    (hround : ∀ l, w.heap.size ≤ l → RoundOk P ps assign body enc I Ix a.tmps E w l)
    (hdone : ∀ D E' W, w.heap.size ≤ D → W.heap[D]? = some (.deferred (some [])) → ¬ E' D → Mv E w W → Gr E w E' → I [] E' W → Q .normal { a with defers := { target := .collected D, args := #[] } :: a.defers } W)
    (hstop : ∀ D c E' W, w.heap.size ≤ D → W.heap[D]? = some (.deferred (some [])) → ¬ E' D → Mv E w W → Gr E w E' → Ix c E' W → c.wpIn Fence.wide n P Q { a with defers := { target := .collected D, args := #[] } :: a.defers } W) :
    (Code.rangeFunc g ps assign body).wpIn Fence.wide n P Q a w := by
  refine wpIn_rangeFunc ?_
  intro fn _
  have hlow := hI.low _ _ _ h0
  obtain ⟨W1, hW1⟩ : ∃ W1, (w.alloc (.deferred (some []))).alloc (.loop { state := .ready, pending := none, fn := fn, tmps := a.tmps, params := ps, assign := assign, body := body, defers := w.heap.size }) = W1 := ⟨_, rfl⟩
  have hL1 : W1.heap[w.heap.size + 1]? = some (.loop { state := .ready, pending := none, fn := fn, tmps := a.tmps, params := ps, assign := assign, body := body, defers := w.heap.size }) := by
    rw [← hW1]; have := World.alloc_heap_new (w.alloc (.deferred (some []))) (.loop { state := .ready, pending := none, fn := fn, tmps := a.tmps, params := ps, assign := assign, body := body, defers := w.heap.size }); rwa [World.size_alloc] at this
  have hK1 : W1.heap[w.heap.size]? = some (.deferred (some [])) := by
    rw [← hW1]; exact (Below.heap_alloc _ _ _ (by simp)).trans (World.alloc_heap_new w _)
  have hs1 : W1.heap.size = w.heap.size + 2 := by rw [← hW1]; simp
  have m1 : Mv E w W1 := by rw [← hW1]; exact (Mv.alloc _ _ _).trans' (Mv.alloc _ _ _)
  have g1 : Gr E w (fun k => E k ∨ k = w.heap.size + 1) := fun k hk => hk.imp id (fun e => by omega)
  refine ⟨w.heap.size + 1, [{ target := .collected w.heap.size, args := #[] }], W1, { target := .fn (.func gf) lb, args := #[.func (.yield (w.heap.size + 1)) #[] #[]] }, W1, gf, #[.func (.yield (w.heap.size + 1)) #[] #[]] ++ lb, W1, ?_, ?_, fun _ _ => trivial, ?_, fun h => (by cases h), callsIn_wide.2 ?_⟩
  · rw [← hW1]; exact run_enterLoop_outer _ _ _ _ _
  · simp only [resolve, hg]
    simp [go_sem]
  · simp [invoke, go_sem, eg]
  · refine (hrow (w.heap.size + 1) _ _ (fun k => E k ∨ k = w.heap.size + 1) W1 m1 g1 ?_ ?_ ?_ (yi_of_round (fn := fn) (D := w.heap.size) (by omega) (by omega) hI hIx hps (hround _ (by omega))) ?_).mono ?_
    · refine ⟨fun s E1 W V h m => ?_, fun s E1 W h k hk => ?_⟩
      · obtain ⟨E0, hE, hEl, ⟨hi, hmw, hgw⟩, hl⟩ := h
        refine ⟨E0, hE, hEl, ⟨hI.keep _ _ _ _ hi (m.out (fun k _ h => ⟨fun e => h.1 ((hE k).2 (.inl e)), by omega⟩)), ?_, hgw⟩, ?_⟩
        · exact ⟨m.os.trans hmw.os, m.tape.trans hmw.tape, m.output.trans hmw.output, Nat.le_trans hmw.size m.size, fun k hk he => (m.block k (Nat.lt_of_lt_of_le hk hmw.size) (fun h => by omega)).trans (hmw.block k hk he)⟩
        · exact (m.block _ (Array.getElem?_eq_some_iff.1 hl).1 (fun h => h.1 ((hE _).2 (.inr rfl)))).trans hl
      · obtain ⟨E0, hE, hEl, ⟨hi, hmw, hgw⟩, hl⟩ := h
        rcases (hE k).1 hk with h | rfl
        · exact hI.low _ _ _ hi k h
        · exact (Array.getElem?_eq_some_iff.1 hl).1
    · refine ⟨fun s E1 W V h m => ?_, fun s E1 W h k hk => ?_⟩
      · obtain ⟨E0, c, hE, hEl, ⟨hi, hmw, hgw⟩, hl⟩ := h
        refine ⟨E0, c, hE, hEl, ⟨hIx.keep _ _ _ _ hi (m.out (fun k _ h => ⟨fun e => h.1 ((hE k).2 (.inl e)), by omega⟩)), ?_, hgw⟩, ?_⟩
        · exact ⟨m.os.trans hmw.os, m.tape.trans hmw.tape, m.output.trans hmw.output, Nat.le_trans hmw.size m.size, fun k hk he => (m.block k (Nat.lt_of_lt_of_le hk hmw.size) (fun h => by omega)).trans (hmw.block k hk he)⟩
        · exact (m.block _ (Array.getElem?_eq_some_iff.1 hl).1 (fun h => h.1 ((hE _).2 (.inr rfl)))).trans hl
      · obtain ⟨E0, c, hE, hEl, ⟨hi, hmw, hgw⟩, hl⟩ := h
        rcases (hE k).1 hk with h | rfl
        · exact hIx.low _ _ _ hi k h
        · exact (Array.getElem?_eq_some_iff.1 hl).1
    · rintro s s' E1 W hp ⟨E0, hE, hEl, ⟨hi, hmw, hgw⟩, hl⟩
      exact ⟨E0, hE, hEl, ⟨hpm _ _ _ _ hp hi, hmw, hgw⟩, hl⟩
    · exact ⟨E, fun k => Iff.rfl, fun h => by have := hlow _ h; omega, ⟨hI.keep _ _ _ _ h0 (by rw [← hW1]; exact (Mv.alloc _ _ _).trans' (Mv.alloc _ _ _)), m1, Gr.refl _ _⟩, hL1⟩
    · rintro e W2 ⟨⟨v, rfl⟩, m2, (⟨E1, g2, E0, hE, hEl, ⟨hi, mW, gW⟩, hl⟩ | ⟨E1, g2, E0, c, hE, hEl, ⟨hi, mW, gW⟩, hl⟩)⟩
      all_goals
        have hKD : W2.heap[w.heap.size]? = some (.deferred (some [])) := (m2.block _ (by omega) (fun h => by rcases h with h | h; exact absurd (hlow _ h) (by omega); omega)).trans hK1
        have nD : ¬ E0 w.heap.size := fun h => by
          rcases g2 _ ((hE _).2 (.inl h)) with (h | h) | h
          · exact absurd (hlow _ h) (by omega)
          · omega
          · omega
      · refine ⟨none, _, run_endLoop hl (by simp), ?_⟩
        exact hdone w.heap.size E0 _ (Nat.le_refl _) ((World.putObj_heap_other (by omega)).trans hKD) nD (mW.put_new (by omega) _) gW (hI.keep _ _ _ _ hi (.put ⟨hEl, by omega⟩ _))
      · refine ⟨some c, _, run_endLoop hl (by simp), ?_⟩
        exact hstop w.heap.size c E0 _ (Nat.le_refl _) ((World.putObj_heap_other (by omega)).trans hKD) nD (mW.put_new (by omega) _) gW (hIx.keep _ _ _ _ hi (.put ⟨hEl, by omega⟩ _))
end Go.Proofs.YtedgnigogkmgkaaGreatDoor
/- The edges of a map, gone through in any order. -/
namespace Go.Proofs.YtedgnigogkmgkaaGreatDoor
open Go.RowKit Go.Shelf Go.Lib
attribute [local go_sem] Oper.semAt_some
def kE (e : EK) : Value := edV e.1
def entE (C : Ed → Int) (e : EK) : Lit × DataW Value := (eE e, .held (.int .i64 (C e.1)))
theorem map_of (C : Ed → Int) : ∀ es : List (Lit × DataW Value), (∀ p ∈ es, ∃ a : EK, p = entE C a) → ∃ T : List EK, es = T.map (entE C)
  | [], _ => ⟨[], rfl⟩
  | p :: es, h => by
    obtain ⟨a, ha⟩ := h p (List.mem_cons_self ..)
    obtain ⟨T, hT⟩ := map_of C es fun q hq => h q (List.mem_cons_of_mem _ hq)
    exact ⟨a :: T, by rw [ha, hT]; rfl⟩
/-- The map v of the edges T, nil or not. -/
def MV (w : World) (v : Value) (T : List EK) (C : Ed → Int) : Prop := (v = .map none ∧ T = []) ∨ ∃ b, v = .map (some b) ∧ w.ownsMap Tryz.prog 156 heldElem b T.length (.map (T.map (entE C)))
def mbk : Value → Option Nat
  | .map (some b) => some b
  | _ => none
theorem ME.edges {w : World} {b n : Nat} {C : Ed → Int} (h : ME w b n (cfS C)) : ∃ T : List EK, T.Nodup ∧ (∀ e : EK, e ∈ T ↔ C e.1 ≠ 0) ∧ T.length = n ∧ MV w (.map (some b)) T C := by
  obtain ⟨D, h1, h2, h3, h4⟩ := h
  obtain ⟨es, rfl, hpw, hk⟩ := h1.entries lawE
  have hmem : ∀ p ∈ es, ∃ a : EK, p = entE C a := fun p hp => by
    have hh : Maps.has (.map es) p.1 = true := by
      rw [Maps.has_eq]
      exact List.any_eq_true.2 ⟨p, hp, WideAt.sameKey_self (hk p hp)⟩
    obtain ⟨a, ha⟩ := h4 _ hh
    refine ⟨a, ?_⟩
    have hv := h3.val a p.2
    have hat : ∀ z, (DataW.map es).atKey (eE a) z = p.2 := fun z => by
      unfold DataW.atKey
      simp only
      cases f : es.find? (fun q => q.1.sameKey (eE a)) with
      | none => exact absurd (List.find?_eq_none.1 f p hp) (by rw [ha, WideAt.sameKey_self (hk p hp)]; simp)
      | some q =>
        have q1 := List.mem_of_find?_eq_some f
        have q2 := List.find?_some f
        have e1 : q.1 = p.1 := (WideAt.sameKey_eq q2).trans ha
        by_cases e : q = p
        · rw [e]
        · obtain ⟨i, hi, ei⟩ := List.getElem_of_mem q1
          obtain ⟨j, hj, ej⟩ := List.getElem_of_mem hp
          have hh := List.pairwise_iff_getElem.1 hpw
          rcases Nat.lt_trichotomy i j with q | q | q
          · have := hh i j hi hj q; rw [ei, ej] at this; exact absurd e1 this
          · subst q; exact absurd (ei.symm.trans ej) e
          · have := hh j i hj hi q; rw [ei, ej] at this; exact absurd e1.symm this
    have hs := h3.has a
    rw [ha, hh] at hs
    have hat2 := hat (.held (.bool false))
    rw [h3.val] at hat2
    unfold cfS at hs hat2
    by_cases hz : C a.1 = 0
    · rw [if_pos hz] at hs; cases hs
    · rw [if_neg hz] at hat2
      unfold entE
      exact Prod.ext ha.symm hat2.symm
  obtain ⟨T, hT⟩ := map_of C es hmem
  subst hT
  have hl : T.length = n := by rw [← h2, Maps.size_eq, List.length_map]
  refine ⟨T, ?_, fun e => ?_, hl, .inr ⟨b, rfl, by rw [hl]; exact h1⟩⟩
  · have := List.pairwise_map.1 hpw
    exact this.imp (fun {a b} q e => q (by rw [e]))
  · have := h3.has e
    unfold cfS at this
    constructor
    · intro he hz
      rw [if_pos hz] at this
      rw [Maps.has_eq] at this
      have h6 := List.any_eq_false.1 this (entE C e) (List.mem_map_of_mem he)
      exact h6 (WideAt.sameKey_self (klE e))
    · intro hz
      rw [if_neg hz, Maps.has_eq] at this
      obtain ⟨p, hp, hs⟩ := List.any_eq_true.1 this
      obtain ⟨d, hd, rfl⟩ := List.mem_map.1 hp
      have : d = e := eE_inj (WideAt.sameKey_eq hs)
      rw [← this]; exact hd
theorem MV.lt {w : World} {v : Value} {T : List EK} {C : Ed → Int} (h : MV w v T C) {k : Nat} (hk : mbk v = some k) : k < w.heap.size := by
  rcases h with ⟨rfl, _⟩ | ⟨b, rfl, h⟩
  · cases hk
  · cases hk; exact h.lt
theorem MV.mv {w V : World} {v : Value} {T : List EK} {C : Ed → Int} {E : Nat → Prop} (h : MV w v T C) (m : Mv E w V) (hE : ∀ k, mbk v = some k → ¬ E k) : MV V v T C := by
  rcases h with h | ⟨b, rfl, h⟩
  · exact .inl h
  · exact .inr ⟨b, rfl, ownsMap_mv h m (hE b rfl)⟩
theorem ranges_mv {H : Type} {P : Program} {k : TypeId} {R : Value → Option (DataW H × List MemPlace)} {w w' : World} {b r n : Nat} {D : DataW H} {left : Lit → Bool} {cnt : Nat} {E : Nat → Prop} (h : w.ranges P k R b r n D left cnt) (m : Mv E w w') (hE : ¬ E b) (hr : ¬ E r) : w'.ranges P k R b r n D left cnt := by
  obtain ⟨es, clock, since, seen, c0, h1, h2, h3, h4, h5, h6⟩ := h
  exact ⟨es, clock, since, seen, c0, (m.block b (Array.getElem?_eq_some_iff.1 h1).1 hE).trans h1, h2, h3, h4, (m.block r (Array.getElem?_eq_some_iff.1 h5).1 hr).trans h5, h6⟩
theorem has_ent {C : Ed → Int} {T : List EK} {e : EK} (he : e ∈ T) : Maps.has (.map (T.map (entE C))) (eE e) = true := by
  rw [Maps.has_eq]
  exact List.any_eq_true.2 ⟨entE C e, List.mem_map_of_mem he, WideAt.sameKey_self (klE e)⟩
/-- A going through the map v of the edges T that lies in block r: who is left, how many at most. -/
def Rg (C : Ed → Int) (W : World) (r : Nat) (v : Value) (T : List EK) (left : Lit → Bool) (cnt : Nat) : Prop :=
  (v = .map none ∧ T = [] ∧ cnt = 0 ∧ ∃ a s b, W.heap[r]? = some (.mapIter none a s b)) ∨
  ∃ b n, v = .map (some b) ∧ W.ranges Tryz.prog 156 heldElem b r n (.map (T.map (entE C))) left cnt
def mr (r : Nat) (v : Value) (W : World) : Nat := match v with
  | .map (some b) => W.rangeLeft b r
  | _ => 0
theorem Rg.mr {C : Ed → Int} {W : World} {r : Nat} {v : Value} {T : List EK} {left : Lit → Bool} {cnt : Nat} (h : Rg C W r v T left cnt) : YtedgnigogkmgkaaGreatDoor.mr r v W = cnt := by
  rcases h with ⟨rfl, _, rfl, _⟩ | ⟨b, n, rfl, h⟩
  · rfl
  · exact h.left_eq
theorem Rg.lt {C : Ed → Int} {W : World} {r : Nat} {v : Value} {T : List EK} {left : Lit → Bool} {cnt : Nat} (h : Rg C W r v T left cnt) : r < W.heap.size := by
  rcases h with ⟨rfl, _, rfl, a, s, b, h⟩ | ⟨b, n, rfl, h⟩
  · exact (Array.getElem?_eq_some_iff.1 h).1
  · exact h.lt
theorem Rg.mv {C : Ed → Int} {W V : World} {r : Nat} {v : Value} {T : List EK} {left : Lit → Bool} {cnt : Nat} {E : Nat → Prop} (h : Rg C W r v T left cnt) (m : Mv E W V) (hr : ¬ E r) (hv : ∀ k, mbk v = some k → ¬ E k) : Rg C V r v T left cnt := by
  have lt := h.lt
  rcases h with ⟨rfl, h1, h2, a, s, b, h⟩ | ⟨b, n, rfl, h⟩
  · exact .inl ⟨rfl, h1, h2, a, s, b, (m.block r lt hr).trans h⟩
  · exact .inr ⟨b, n, rfl, ranges_mv h m (hv b rfl) hr⟩
theorem run_next_nil {W : World} {r a b : Nat} {s : Array Nat} (h : W.heap[r]? = some (.mapIter none a s b)) (ty : TypeId) : (Instr.next (.pointer (some ⟨r, 0, none⟩)) false ty).run Tryz.prog W = .ok (.tuple #[.bool false]) W := by
  simp only [Instr.next, getObj, Sem.run_bind, Sem.run, h, Result.andThen]
  rfl
set_option maxRecDepth 100000 in
theorem Rg.next {C : Ed → Int} {W : World} {r : Nat} {v : Value} {T : List EK} {left : Lit → Bool} {cnt : Nat} (h : Rg C W r v T left cnt) (ty : TypeId) :
    ((∀ d ∈ T, left (eE d) = false) ∧ (Instr.next (.pointer (some ⟨r, 0, none⟩)) false ty).run Tryz.prog W = .ok (.tuple #[.bool false]) W) ∨
    ∃ d ∈ T, left (eE d) = true ∧ ∃ W' cnt' x, (Instr.next (.pointer (some ⟨r, 0, none⟩)) false ty).run Tryz.prog W = .ok (.tuple #[.bool true, kE d, x]) W' ∧ (Instr.entry (.pointer (some ⟨r, 0, none⟩))).run Tryz.prog W' = .ok (.tuple #[kE d, x]) W' ∧
      Rg C W' r v T (fun z => left z && !z.sameKey (eE d)) cnt' ∧ cnt' < cnt ∧ Mv (fun k => k = r) W W' ∧ W'.heap.size = W.heap.size := by
  rcases h with ⟨rfl, rfl, rfl, a, s, b, h⟩ | ⟨b, n, rfl, h⟩
  · exact .inl ⟨(fun _ h => by cases h), run_next_nil h ty⟩
  · rcases h.next lawE ty with ⟨_, hl, hrun⟩ | ⟨key, v, kl, y, w', cnt', hkey, hlk, hv, hat, hrun, hrg, hlt, hgr, hsz, hen⟩
    · exact .inl ⟨fun d _ => hl _, hrun⟩
    · have hh := Maps.has_true_of_atKey hat
      rw [Maps.has_eq] at hh
      obtain ⟨p, hpl, hs⟩ := List.any_eq_true.1 hh
      obtain ⟨d, hd, rfl⟩ := List.mem_map.1 hpl
      have ek : kl = eE d := (WideAt.sameKey_eq hs).symm
      subst ek
      have e2 : key = kE d := lawE.inj hkey (keyE d)
      subst e2
      exact .inr ⟨d, hd, hlk, w', cnt', v, hrun, hen, .inr ⟨b, n, rfl, hrg⟩, hlt, (Mv.refl _ _).grown hgr (fun k e => .inl (by cases e; rfl)), hsz⟩
theorem MV.range {C : Ed → Int} {w : World} {v : Value} {T : List EK} (h : MV w v T C) : ∃ w' left cnt, (Instr.range 154 v).run Tryz.prog w = .ok (.pointer (some ⟨w.heap.size, 0, none⟩)) w' ∧ Rg C w' w.heap.size v T left cnt ∧ (∀ d ∈ T, left (eE d) = true) ∧ cnt ≤ T.length ∧ Below w.heap.size w w' ∧ w'.heap.size = w.heap.size + 1 := by
  rcases h with ⟨rfl, rfl⟩ | ⟨b, rfl, h⟩
  · refine ⟨_, fun _ => false, 0, run_range_nilMap w _ _ _ Tryz.underlying154, .inl ⟨rfl, rfl, rfl, _, _, _, heap_alloc_new w _⟩, (fun _ h => by cases h), Nat.le_refl _, (Below.refl _ _).alloc (Nat.le_refl _) _, by simp⟩
  · obtain ⟨w', hrun, hr, hg, hs⟩ := h.range lawE Tryz.underlying154
    refine ⟨w', _, _, hrun, .inr ⟨b, _, rfl, hr⟩, fun d hd => has_ent hd, ?_, ?_, hs⟩
    · rw [Maps.size_eq, List.length_map]; exact Nat.le_refl _
    · exact ((Mv.refl (fun _ => False) w).grown hg (fun k e => by cases e)).toBelow (Nat.le_refl _) (fun _ _ h => h)
theorem perm_take {d : EK} {p p' : EK → Bool} : ∀ {T : List EK}, T.Nodup → d ∈ T → p d = true → (∀ x ∈ T, p' x = (p x && !(eE x).sameKey (eE d))) → (T.filter p).Perm (d :: T.filter p')
  | x :: T, hk, hd, hp, hq => by
    obtain ⟨k1, k2⟩ := List.pairwise_cons.1 hk
    have hx := hq x (List.mem_cons_self ..)
    rcases List.mem_cons.1 hd with e | hd'
    · subst e
      rw [WideAt.sameKey_self (klE _), Bool.not_true, Bool.and_false] at hx
      have e : T.filter p' = T.filter p := List.filter_congr fun y hy => by
        rw [hq y (List.mem_cons_of_mem _ hy), Maps.sameKey_ne fun z => k1 y hy (eE_inj z).symm]; simp
      rw [List.filter_cons_of_pos hp, List.filter_cons_of_neg (by rw [hx]; decide), e]
    · have hne : (eE x).sameKey (eE d) = false := Maps.sameKey_ne fun z => k1 d hd' (eE_inj z)
      rw [hne, Bool.not_false, Bool.and_true] at hx
      have ih := perm_take k2 hd' hp fun y hy => hq y (List.mem_cons_of_mem _ hy)
      cases hpx : p x with
      | true =>
        rw [List.filter_cons_of_pos hpx, List.filter_cons_of_pos (by rw [hx, hpx])]
        exact (ih.cons x).trans (List.Perm.swap ..)
      | false =>
        rw [List.filter_cons_of_neg (by rw [hpx]; decide), List.filter_cons_of_neg (by rw [hx, hpx]; decide)]
        exact ih
abbrev kB (d : EK) : Obj := .cells #[.int .i64 d.1.1, .string d.1.2.1, .string d.1.2.2] 156
def encK (e : EK) : Array Value := #[.agg #[.int .i64 e.1.1, .string e.1.2.1, .string e.1.2.2]]
set_option maxRecDepth 100000 in
set_option maxHeartbeats 4000000 in
theorem keys_row {bm : Nat} {mv : Value} {T : List EK} {C : Ed → Int} (E : Nat → Prop) (W : World) (hc : W.cell? ⟨bm, 0, none⟩ = some mv) (tm : MV W mv T C) (hT : T.Nodup) (n0 : ¬ E bm) (n1 : ∀ k, mbk mv = some k → ¬ E k) :
    RowP Tryz.prog 217 #[.pointer (some ⟨bm, 0, none⟩)] encK T E W := by
  intro u J Jx E1 V m gr hJ hJx hpm hY h0
  have c0 := m.cell (a := ⟨bm, 0, none⟩) n0 hc
  have tV := tm.mv m n1
  have lJ := hJ.low _ _ _ h0
  have nv : Hid (∀ k, mbk mv = some k → k < V.heap.size ∧ ¬ E1 k) := fun k hk => ⟨tV.lt hk, gr.free (tm.lt hk) (n1 k hk)⟩
  obtain ⟨W3, left, cnt, hrun, rg, hall, _, b3, s3⟩ := tV.range
  obtain ⟨r, hr⟩ : ∃ r, V.heap.size = r := ⟨_, rfl⟩
  rw [hr] at hrun rg
  have nr : Hid (¬ E1 r ∧ r < W3.heap.size ∧ V.heap.size ≤ W3.heap.size ∧ V.heap.size = r) := ⟨fun e => by have := lJ r e; omega, by omega, b3.size, hr⟩
  have hJH := hidP hJ
  have hfil : T.filter (fun d => left (eE d)) = T := List.filter_eq_self.2 fun d hd => hall d hd
  have h3 : J (T.filter fun d => left (eE d)) E1 W3 := by rw [hfil]; exact hJ.keep _ _ _ _ h0 (Mv.below b3)
  have h3H := hidP h3
  have rgH := hidP rg
  have hYH := hidP hY
  have hTH := hidP hT
  have hpmH := hidP hpm
  have mV : Hid (Mv E1 V W3) := Mv.below b3
  clear hc tm hT n0 n1 m tV lJ hJ hJx hpm hY h0 h3 rg hall b3 s3 hfil gr hr
  refine (callsIn_wide (n := 5)).1 ?_
  refine callsIn_of_wp Tryz.func217 rfl trivial ?_ rfl
  simp only [Tryz.ntmps217, List.size_toArray, List.length_cons, List.length_nil, Nat.reduceAdd, Nat.reduceSub, Array.replicate_succ, Array.replicate_zero, List.push_toArray, List.append_toArray, List.nil_append, List.cons_append]
  gi_wp2_with fail
  gi_loopw [6] (fun _ wr => ∃ left cnt E2, Hid (Rg C wr r mv T left cnt) ∧ Hid (J (T.filter fun d => left (eE d)) E2 wr) ∧ Hid (Mv E1 V wr) ∧ Hid (Gr E1 W3 E2) ∧ Hid (W3.heap.size ≤ wr.heap.size)) (fun _ wr => YtedgnigogkmgkaaGreatDoor.mr r mv wr)
  case atStart => exact ⟨left, cnt, E1, rgH, h3H, mV, Gr.refl _ _, Nat.le_refl _⟩
  case round =>
    clear rgH h3H hrun c0
    obtain ⟨left, cnt, E2, rg, hj, hm, hg, hz⟩ := hrel
    rcases rg.out.next 0 with ⟨hall, hnx⟩ | ⟨d, hd, hl, W', cnt', xv, hnx, hen, hrg, hlt, hmv, hsz⟩
    · have hj0 : Hid (J [] E2 wr) := by
        have e : T.filter (fun d => left (eE d)) = [] := List.filter_eq_nil_iff.2 fun d hd => by rw [hall d hd]; decide
        have := hj.out
        rw [e] at this; exact this
      clear hj rg hall
      gi_wp2_with fail
      go_end0
      exact ⟨⟨_, rfl⟩, hm.out, .inl ⟨E2, Gr.mono nr.out.2.2.1 hg.out, hj0.out⟩⟩
    · have hp := perm_take (p := fun d => left (eE d)) (p' := fun x => left (eE x) && !(eE x).sameKey (eE d)) hTH.out hd hl (fun _ _ => rfl)
      have nE2 : ¬ E2 r := hg.out.free nr.out.2.1 nr.out.1
      have m6 : Mv (fun _ => False) W' (W'.alloc (kB d)) := Mv.below ((Below.refl W'.heap.size W').alloc (Nat.le_refl _) (kB d))
      have hmv6 : Mv (fun k => k = r) wr (W'.alloc (kB d)) := hmv.trans (E' := fun _ => False) (fun _ hk => hk.elim) m6
      have s6 : (W'.alloc (kB d)).heap.size = wr.heap.size + 1 := by simp [hsz]
      have hj1 : J (d :: T.filter fun x => left (eE x) && !(eE x).sameKey (eE d)) E2 (W'.alloc (kB d)) := by
        refine (hpmH.out _ _ _ _ hp (hJH.out.keep _ _ _ _ hj.out (hmv6.mono fun k _ e => ⟨fun h => nE2 (e ▸ h), ?_⟩)))
        have := nr.out.2.2.2
        omega
      obtain ⟨fn, tmps, assign, body, hy, hR⟩ := hYH.out _ _ _ _ hj1
      dsimp only [encK] at hy
      have hen' : (Instr.entry (.pointer (some ⟨r, 0, none⟩))).run Tryz.prog W' = .ok (.tuple #[.agg #[.int .i64 d.1.1, .string d.1.2.1, .string d.1.2.2], xv]) W' := hen
      have hnx' : (Instr.next (.pointer (some ⟨r, 0, none⟩)) false 0).run Tryz.prog wr = .ok (.tuple #[.bool true, .agg #[.int .i64 d.1.1, .string d.1.2.1, .string d.1.2.2], xv]) W' := hnx
      have hmW : Hid (Mv E1 V (W'.alloc (kB d))) := hm.out.trans (E' := fun k => k = r) (fun k hk => .inr (by have := nr.out.2.2.2; omega)) hmv6
      have hzW : Hid (W3.heap.size ≤ (W'.alloc (kB d)).heap.size) := by show _ ≤ _; rw [s6]; exact Nat.le_succ_of_le hz.out
      have nE2H : Hid (¬ E2 r ∧ ∀ k, mbk mv = some k → ¬ E2 k) := ⟨nE2, fun k hk => hg.out.free (Nat.lt_of_lt_of_le (nv.out k hk).1 nr.out.2.2.1) (nv.out k hk).2⟩
      have hRH := hidP hR
      have hrgH := hidP (hrg.mv (E := fun _ => False) m6 (fun h => h) (fun _ _ h => h))
      have hms : Hid (cnt' < YtedgnigogkmgkaaGreatDoor.mr r mv wr) := by show _ < _; rw [rg.out.mr]; exact hlt
      clear hj rg hj1 hp hR hrg hen hnx hlt hmv hm hz nE2 m6 hmv6 s6
      gi_wp2_with fail
      refine (wide_round' hRH.out).mono ?_
      rintro e W4 ⟨m3, (⟨rfl, E3, g3, hj3⟩ | ⟨rfl, E3, g3, hj3⟩)⟩
      · have rg4 := hidP (hrgH.out.mv m3 nE2H.out.1 nE2H.out.2)
        have fin : Hid (∃ left cnt E2, Hid (Rg C W4 r mv T left cnt) ∧ Hid (J (T.filter fun d => left (eE d)) E2 W4) ∧ Hid (Mv E1 V W4) ∧ Hid (Gr E1 W3 E2) ∧ Hid (W3.heap.size ≤ W4.heap.size)) := ⟨_, cnt', E3, rg4, hj3, hmW.out.trans (Gr.mono nr.out.2.2.1 hg.out) m3, hg.out.trans hzW.out g3, Nat.le_trans hzW.out m3.size⟩
        have hlt4 : Hid (YtedgnigogkmgkaaGreatDoor.mr r mv W4 < YtedgnigogkmgkaaGreatDoor.mr r mv wr) := by show _ < _; rw [rg4.out.mr]; exact hms.out
        clear m3 g3 hj3 hy
        gi_wp2_with fail
        exact ⟨fin.out, hlt4.out⟩
      · have fin : Hid (Went J Jx E1 V (.returned (.tuple #[])) W4) := ⟨⟨_, rfl⟩, hmW.out.trans (Gr.mono nr.out.2.2.1 hg.out) m3, .inr ⟨E3, (Gr.mono nr.out.2.2.1 hg.out).trans (Nat.le_trans nr.out.2.2.1 hzW.out) g3, hj3⟩⟩
        clear m3 g3 hj3 hy
        gi_wp2_with fail
        refine bodyPost_ret (results_none rfl _ _ _) rfl ?_
        exact fin.out
end Go.Proofs.YtedgnigogkmgkaaGreatDoor
/- slices.Collect of edges that come in any order. -/
namespace Go.Proofs.YtedgnigogkmgkaaGreatDoor
open Go.RowKit Go.Shelf Go.Lib
theorem RowP.map {P : Program} {α β : Type} {g : Nat} {lb : Array Value} {f : α → β} {enc : β → Array Value} {xs : List α} {E : Nat → Prop} {W : World} (h : RowP P g lb (fun a => enc (f a)) xs E W) : RowP P g lb enc (xs.map f) E W := fun l J Jx E1 V m gr hJ hJx hpm hY h0 =>
  (h l (fun s => J (s.map f)) Jx E1 V m gr ⟨fun s => hJ.keep (s.map f), fun s => hJ.low (s.map f)⟩ hJx (fun _ _ _ _ hp => hpm _ _ _ _ (hp.map f)) (fun x rest => hY (f x) (rest.map f)) h0).mono fun _ _ h => h
end Go.Proofs.YtedgnigogkmgkaaGreatDoor
namespace Go.Proofs.YtedgnigogkmgkaaGreatDoor.Eg
open Go.RowKit Go.Shelf Go.Lib
attribute [local go_sem] Oper.semAt_some
def enE (x : Ed) : Array Value := #[.agg #[.int .i64 x.1, .string x.2.1, .string x.2.2]]
/-- How far AppendSeq has come. -/
def AI (l0 xs : List Ed) (v0 : Value) (sb : Nat) (w0 : World) (rest : List Ed) (E : Nat → Prop) (W : World) : Prop :=
  ∃ v done, (done ++ rest).Perm xs ∧ (∀ k, E k ↔ (k = sb ∨ nbk v = some k)) ∧ Cl sb v W ∧ SV W v (l0 ++ done) ∧ nbk v ≠ some sb ∧ (nbk v = nbk v0 ∨ ∃ k, nbk v = some k ∧ w0.heap.size ≤ k)
theorem AI.ter {l0 xs : List Ed} {v0 : Value} {sb B : Nat} {w0 : World} : Ter B (AI l0 xs v0 sb w0) :=
  ⟨fun s E W V h m => by
    obtain ⟨v, done, h1, h2, h3, h4, h5⟩ := h
    exact ⟨v, done, h1, h2, h3.mv m (fun f => f.1 ((h2 sb).2 (.inl rfl))), h4.mv m (fun k hk f => f.1 ((h2 k).2 (.inr hk))), h5⟩, fun s E W h k hk => by
    obtain ⟨v, done, h1, h2, h3, h4, h5⟩ := h
    rcases (h2 k).1 hk with rfl | hk
    · exact h3.lt
    · exact h4.lt hk⟩
theorem AI.perm {l0 xs : List Ed} {v0 : Value} {sb : Nat} {w0 : World} {s s' : List Ed} {E : Nat → Prop} {W : World} (h : AI l0 xs v0 sb w0 s E W) (hp : s.Perm s') : AI l0 xs v0 sb w0 s' E W := by
  obtain ⟨v, done, h1, h⟩ := h
  exact ⟨v, done, (List.Perm.append_left done hp.symm).trans h1, h⟩
def AX (_ : Code) (_ : Nat → Prop) (_ : World) : Prop := False
theorem AX.ter (B : Nat) : Ter B AX := ⟨fun _ _ _ _ h _ => h.elim, fun _ _ _ h => h.elim⟩
set_option maxRecDepth 100000 in
set_option maxHeartbeats 4000000 in
theorem appendseq_any (l0 xs : List Ed) (v0 : Value) (gf : Nat) (lb : Array Value) (eg : ∀ args w, (callFunc gf args).run Tryz.prog w = .ok (.enter gf args) w) (w : World) (h0 : SV w v0 l0) (hrow : ∀ W0, Below w.heap.size w W0 → RowP Tryz.prog gf lb enE xs (fun k => k = w.heap.size ∨ nbk v0 = some k) W0) (hl : l0.length + xs.length ≤ 400000) :
    Calls Tryz.prog 244 #[v0, .func (.func gf) #[] lb] w fun e V => ∃ v ys, e = .returned v ∧ ys.Perm xs ∧ SV V v (l0 ++ ys) ∧ Mv (fun k => nbk v0 = some k) w V ∧ (nbk v = nbk v0 ∨ ∃ k, nbk v = some k ∧ w.heap.size ≤ k) := by
  obtain ⟨p0, c0, hv0⟩ := h0.shape
  obtain ⟨n0, hn0⟩ : ∃ n0, l0.length = n0 := ⟨_, rfl⟩
  rw [hn0] at hv0
  obtain ⟨n, hn⟩ : ∃ n, w.heap.size = n := ⟨_, rfl⟩
  obtain ⟨W0, hW0⟩ : ∃ W0, w.alloc (.cells #[v0] 117) = W0 := ⟨_, rfl⟩
  have mW : ∀ F, Mv F w W0 := fun F => by rw [← hW0]; exact Mv.alloc _ _ _
  have hs0 : W0.heap.size = n + 1 := by rw [← hW0]; simp [hn]
  have cl0 : Cl n v0 W0 := ⟨by rw [← hW0]; exact cell_at hn rfl, by rw [← hW0]; exact froz_new hn⟩
  have sv0 : SV W0 v0 l0 := h0.mv (mW fun _ => False) (fun _ _ h => h)
  have nv0 : nbk v0 ≠ some n := fun e => by have := h0.lt e; omega
  have row := hidP (hrow W0 (by rw [← hW0]; exact (Below.refl _ _).alloc (Nat.le_refl _) _))
  rw [hn] at row
  have tI : Ter W0.heap.size (AI l0 xs v0 n w) := AI.ter
  have hI : Hid (AI l0 xs v0 n w xs (fun k => k = n ∨ nbk v0 = some k) W0) := ⟨v0, [], List.Perm.refl _, fun _ => Iff.rfl, cl0, by rw [List.append_nil]; exact sv0, nv0, .inl rfl⟩
  have hnH := hidP hn
  have mWH := hidP mW
  have hs0H := hidP hs0
  have hv0H := hidP hv0
  clear h0 hrow cl0 sv0 mW hs0 hn0 hv0H
  subst hv0
  refine (callsIn_wide (n := 5)).1 ?_
  refine callsIn_of_wp_marks Tryz.func244 rfl trivial ?_ rfl
  simp only [Tryz.ntmps244, List.size_toArray, List.length_cons, List.length_nil, Nat.reduceAdd, Nat.reduceSub, Array.replicate_succ, Array.replicate_zero, List.push_toArray, List.append_toArray, List.nil_append, List.cons_append]
  gi_wp2_with (rw [hW0])
  refine loop_outP (gf := gf) (lb := lb) rfl eg row.out (fun _ => rfl) (AI l0 xs (.slice p0 n0 c0) n w) (fun _ _ _ _ hp h => h.perm hp) AX tI (AX.ter _) hI.out ?round ?done ?stop
  case round =>
    rintro l9 hl9 x rest E2 U hi hm hg hEl hrec
    have hltH : Hid (l9 < U.heap.size) := by obtain ⟨r, hr⟩ := hrec; exact (Array.getElem?_eq_some_iff.1 hr).1
    clear hrec
    simp only [enE]
    gi_wp2_with fail
    refine ⟨⟨Mv.alloc _ _ _, Below.heap_alloc _ _ _ hltH.out⟩, fun U2 tw => ?_⟩
    obtain ⟨hi2, hm2⟩ := tw.go tI hi (Mv.alloc _ _ _) hm (Nat.le_refl _) hl9 hEl
    have bx : ∀ j u, #[Value.int .i64 x.1, .string x.2.1, .string x.2.2][j]? = some u → U2.cell? ⟨U.heap.size, j, none⟩ = some u := fun j u hj => tw.mv.cell (a := ⟨U.heap.size, j, none⟩) (by have := hltH.out; show ¬ U.heap.size = l9; omega) (cell_at rfl hj)
    have x0 : U2.cell? ⟨U.heap.size, 0, none⟩ = some (.int .i64 x.1) := bx 0 _ rfl
    have x1 : U2.cell? ⟨U.heap.size, 1, none⟩ = some (.string x.2.1) := bx 1 _ rfl
    have x2 : U2.cell? ⟨U.heap.size, 2, none⟩ = some (.string x.2.2) := bx 2 _ rfl
    have hU2 : Hid (U2.heap.size = U.heap.size + 1) := by show _ = _; have := tw.size; simpa using this
    obtain ⟨v, done, e1, e2, e3, e4, e5, e6⟩ := hi2
    obtain ⟨A, hA⟩ : ∃ A, U2.alloc (.cells #[.int .i64 x.1, .string x.2.1, .string x.2.2] 156) = A := ⟨_, rfl⟩
    have mA : ∀ F, Mv F U2 A := fun F => by rw [← hA]; exact Mv.alloc _ _ _
    have svA := e4.mv (mA fun _ => False) (fun _ _ h => h)
    have raA : RA A U2.heap.size 0 [x] := by
      intro j u hj
      rw [Nat.zero_add, ← hA]
      refine cell_at rfl ?_
      match j, hj with
      | 0, hj => exact hj
      | 1, hj => exact hj
      | 2, hj => exact hj
      | j + 3, hj => simp [flat] at hj
    have hdl : done.length + rest.length + 1 = xs.length := by have := e1.length_eq; simp at this; omega
    obtain ⟨v', A2, hrun, sv', m2, at2⟩ := svA.append raA (by rw [List.length_append]; omega) 1
    obtain ⟨A3, hA3⟩ : ∃ A3, A2.setCell ⟨n, 0, none⟩ v' = A3 := ⟨_, rfl⟩
    have n2 : ¬ nbk v = some n := e5
    have cA2 := (e3.mv (mA fun _ => False) (fun h => h)).mv m2 n2
    have clA3 : Cl n v' A3 := by rw [← hA3]; exact cA2.set v'
    have mS : Mv (fun k => k = n) A2 A3 := by rw [← hA3]; exact Mv.set1 (E := fun k => k = n) rfl _
    have szA : A.heap.size = U2.heap.size + 1 := by rw [← hA]; simp
    have hnU : n < U2.heap.size := e3.lt
    have n3 : nbk v' ≠ some n := fun e => by
      rcases at2 with q | ⟨k, q, hk⟩
      · exact e5 (q ▸ e)
      · rw [e] at q; injection q with q; omega
    have fin : Hid (Mv E2 U2 A3 ∧ ∃ E', Gr E2 U2 E' ∧ AI l0 xs (.slice p0 n0 c0) n w rest E' A3) := by
      refine ⟨(((mA E2).trans' (m2.mono fun k _ hk => (e2 k).2 (.inr hk))).trans' (mS.mono fun k _ hk => (e2 k).2 (.inl hk))), fun k => k = n ∨ nbk v' = some k, fun k hk => ?_, v', done ++ [x], by rw [List.append_assoc]; exact e1, fun _ => Iff.rfl, clA3, ?_, n3, ?_⟩
      · rcases hk with hk | hk
        · exact .inl ((e2 k).2 (.inl hk))
        · rcases at2 with q | ⟨k', q, hk'⟩
          · exact .inl ((e2 k).2 (.inr (by rw [← q]; exact hk)))
          · rw [hk] at q; injection q with q; exact .inr (by omega)
      · rw [← List.append_assoc]
        exact sv'.mv mS (fun k hk e => n3 (e ▸ hk))
      · rcases at2 with q | ⟨k', q, hk'⟩
        · rcases e6 with z | ⟨k, z, hk⟩
          · exact .inl (q.trans z)
          · exact .inr ⟨k, q.trans z, hk⟩
        · exact .inr ⟨k', q, by have := hm2.size; have := hnH.out; omega⟩
    obtain ⟨pv, cvv, rfl⟩ := e4.shape
    obtain ⟨pv', cv', rfl⟩ := sv'.shape
    have ec := e3.c
    have ef := cA2.f
    have ec2 := cA2.c
    obtain ⟨nd, hnd⟩ : ∃ nd, (l0 ++ done).length = nd := ⟨_, rfl⟩
    obtain ⟨nd', hnd'⟩ : ∃ nd', (l0 ++ done ++ [x]).length = nd' := ⟨_, rfl⟩
    rw [hnd] at hrun ec ec2
    rw [hnd'] at hrun hA3
    clear sv' m2 at2 e1 e2 e3 e4 e5 e6 n2 clA3 mS n3 svA raA mA hm2 hi hm tw hdl cA2 hnd hnd'
    gi_wp2_with (first | rw [hA] | rw [hA3] | (gi_at_builtin; refine wpListIn_append_run rfl _ _ 117 rfl _ _ _ _ rfl rfl hrun ?_))
    exact fin.out
  case done =>
    rintro D E2 U hD hK hnD hm hg ⟨v, done, e1, e2, e3, e4, e5, e6⟩
    rw [List.append_nil] at e1
    have nvD : ¬ nbk v = some D := fun e => hnD ((e2 D).2 (.inr e))
    have mP : Mv (fun j => j = D) U (U.putObj D (.deferred none)) := Mv.put (E := fun j => j = D) rfl _
    have fin : Hid (∃ v' ys, Ending.returned v = .returned v' ∧ ys.Perm xs ∧ SV (U.putObj D (.deferred none)) v' (l0 ++ ys) ∧ Mv (fun k => nbk (.slice p0 n0 c0) = some k) w (U.putObj D (.deferred none)) ∧ (nbk v' = nbk (.slice p0 n0 c0) ∨ ∃ k, nbk v' = some k ∧ w.heap.size ≤ k)) := by
      have s0 := hs0H.out
      refine ⟨v, done, rfl, e1, e4.mv mP (fun k hk e => nvD (e ▸ hk)), ?_, e6⟩
      refine ((mWH.out (fun k => nbk (.slice p0 n0 c0) = some k)).trans (E' := fun k => k = n ∨ nbk (.slice p0 n0 c0) = some k) (fun k hk => ?_) hm).put_new (by omega) _
      rcases hk with hk | hk
      · exact .inr (by omega)
      · exact .inl hk
    obtain ⟨pv, cvv, rfl⟩ := e4.shape
    have ec := e3.c
    obtain ⟨nd, hnd⟩ : ∃ nd, (l0 ++ done).length = nd := ⟨_, rfl⟩
    rw [hnd] at fin ec
    clear hnd
    have hKH := hidP hK
    clear e2 e3 e4 e5 e6 mP nvD hK hm hg hI row
    gi_wp2_with fail
    refine ⟨by simp, .inl ⟨_, _, rfl, run_takeDeferred hKH.out, ?_⟩⟩
    refine ⟨_, by simp [results, Tryz.results244, go_sem]; rfl, ?_⟩
    exact fin.out
  case stop =>
    intro D c E2 U hD hK hnD hm hg h
    exact h.elim
set_option maxRecDepth 100000 in
set_option maxHeartbeats 1000000 in
theorem collect_any (xs : List Ed) (gf : Nat) (lb : Array Value) (eg : ∀ args w, (callFunc gf args).run Tryz.prog w = .ok (.enter gf args) w) (w : World) (hrow : ∀ W0, Below w.heap.size w W0 → RowP Tryz.prog gf lb enE xs (fun k => k = w.heap.size) W0) (hl : xs.length ≤ 400000) :
    Calls Tryz.prog 215 #[.func (.func gf) #[] lb] w fun e V => ∃ v ys, e = .returned v ∧ ys.Perm xs ∧ SV V v ys ∧ Below w.heap.size w V ∧ (∀ k, nbk v = some k → w.heap.size ≤ k) := by
  have hC : Hid (Calls Tryz.prog 244 #[.slice none 0 0, .func (.func gf) #[] lb] w fun e V => ∃ v ys, e = .returned v ∧ ys.Perm xs ∧ SV V v ys ∧ Below w.heap.size w V ∧ (∀ k, nbk v = some k → w.heap.size ≤ k)) := by
    refine (appendseq_any [] xs (.slice none 0 0) gf lb eg w (.inl ⟨rfl, rfl⟩) (fun W0 b => by
      have h := hrow W0 b
      have e : (fun k => k = w.heap.size ∨ nbk (.slice none 0 0) = some k) = fun k => k = w.heap.size := by
        funext k
        exact propext ⟨fun z => z.elim id (fun z => by cases z), .inl⟩
      rw [e]; exact h) (by simpa using hl)).mono ?_
    rintro e V ⟨v, ys, rfl, hp, h1, h2, h3⟩
    refine ⟨v, ys, rfl, hp, h1, h2.toBelow (Nat.le_refl _) (fun k _ e => by cases e), fun k hk => ?_⟩
    rcases h3 with q | ⟨k', q, hk'⟩
    · rw [hk] at q; cases q
    · rw [hk] at q; injection q with q; omega
  clear hrow eg
  go_enter Tryz.func215, Tryz.ntmps215
  go_wp2_with fail
  refine hC.out.mono ?_
  rintro e V ⟨v, ys, rfl, hv⟩
  have hvH := hidP hv
  clear hv
  go_wp2_with fail
  go_ret
  exact ⟨v, ys, rfl, hvH.out⟩
end Go.Proofs.YtedgnigogkmgkaaGreatDoor.Eg
