/- The contract of package calendar's From. -/
import Derived.Test.YtfjbonhlokbhpaaDoorFR3B
namespace Go.Proofs.YtfjbonhlokbhpaaDoor
open Go.RowKit Go.Shelf
set_option maxHeartbeats 1000000 in
theorem timesA (S : Nat → Sl) (t : Int) (w : World) :
    Calls Tryd.prog 20 #[aggC S, .int .i64 t] w fun e w' => e = .returned (.func (.func 36) #[] #[.pointer (some ⟨w.heap.size + 1, 0, none⟩), .pointer (some ⟨w.heap.size, 0, none⟩)]) ∧ w' = (w.alloc (.cells #[slv (S 0), slv (S 1), slv (S 2), slv (S 3), slv (S 4), slv (S 5), slv (S 6)] 24)).alloc (.cells #[.int .i64 t] 2) := by
  go_enter Tryd.func20, Tryd.ntmps20
  go_wp2
  go_ret
  exact ⟨rfl, rfl⟩
/-- What From gives of an expression. -/
def FromP (c : Cal.C7) (t : Int) (w : World) (e : Ending) (w' : World) : Prop :=
  ∃ (bt bc : Nat) (S' : Nat → Sl), e = .returned (.func (.func 36) #[] #[.pointer (some ⟨bt, 0, none⟩), .pointer (some ⟨bc, 0, none⟩)]) ∧ Below w.heap.size w w' ∧ CalPin (fun k => k < w.heap.size) w' S' c ∧ w.heap.size ≤ bc ∧ w.heap.size ≤ bt ∧ w'.cell? ⟨bt, 0, none⟩ = some (.int .i64 t) ∧ CalBox (fun k => k < w.heap.size) w' bc S' c
set_option maxRecDepth 100000 in
set_option maxHeartbeats 2000000 in
theorem from_yes (S : Nat → Sl) (c : Cal.C7) (t : Int) (w : World) (hp : CalPin (fun _ => False) w S c) (hg : GlP w) (hI : isB c = true) :
    Calls Tryd.prog 10 #[aggC S, .int .i64 t] w (FromP c t w) := by
  have hB : Below w.heap.size w (w.alloc (.cells #[slv (S 0), slv (S 1), slv (S 2), slv (S 3), slv (S 4), slv (S 5), slv (S 6)] 24)) := (Below.refl _ _).alloc (Nat.le_refl _) _
  have hIs := isC_any S c _ (hp.below hB) (hg.below hB).gl
  rw [hI] at hIs
  go_enter Tryd.func10, Tryd.ntmps10
  go_wp2_with fail
  refine hIs.mono ?_
  rintro e w1 ⟨rfl, hb1⟩
  have hb01 := hB.trans (hb1.mono hB.size)
  have h0 : ∀ j u, #[slv (S 0), slv (S 1), slv (S 2), slv (S 3), slv (S 4), slv (S 5), slv (S 6)][j]? = some u → w1.cell? ⟨w.heap.size, j, none⟩ = some u := fun j u hj => (hb1.cell (p := ⟨w.heap.size, j, none⟩) (by simp)).trans (cell_at rfl hj)
  have e0 : w1.cell? ⟨w.heap.size, 0, none⟩ = some (slv (S 0)) := h0 0 _ rfl
  have e1 : w1.cell? ⟨w.heap.size, 1, none⟩ = some (slv (S 1)) := h0 1 _ rfl
  have e2 : w1.cell? ⟨w.heap.size, 2, none⟩ = some (slv (S 2)) := h0 2 _ rfl
  have e3 : w1.cell? ⟨w.heap.size, 3, none⟩ = some (slv (S 3)) := h0 3 _ rfl
  have e4 : w1.cell? ⟨w.heap.size, 4, none⟩ = some (slv (S 4)) := h0 4 _ rfl
  have e5 : w1.cell? ⟨w.heap.size, 5, none⟩ = some (slv (S 5)) := h0 5 _ rfl
  have e6 : w1.cell? ⟨w.heap.size, 6, none⟩ = some (slv (S 6)) := h0 6 _ rfl
  have hcp := copyOf_any S c w1 (hp.below hb01)
  clear hIs h0 hb1
  go_wp2_with fail
  refine hcp.mono ?_
  rintro e w2 ⟨S', rfl, hb2, hp2⟩
  have hb02 := hb01.trans (hb2.mono hb01.size)
  have hp2' : CalPin (fun k => k < w.heap.size) w2 S' c := ⟨pin_mono hp2.p0 (fun k h => by have := hb01.size; omega), pin_mono hp2.p1 (fun k h => by have := hb01.size; omega), pin_mono hp2.p2 (fun k h => by have := hb01.size; omega), pin_mono hp2.p3 (fun k h => by have := hb01.size; omega), pin_mono hp2.p4 (fun k h => by have := hb01.size; omega), pin_mono hp2.p5 (fun k h => by have := hb01.size; omega), pin_mono hp2.p6 (fun k h => by have := hb01.size; omega)⟩
  have hX := hidI2 (And.intro hb02 hp2')
  clear hcp e0 e1 e2 e3 e4 e5 e6 hb2 hp2 hb02 hp2' hb01 hB
  go_wp2_with fail
  refine (timesA S' t w2).mono ?_
  rintro e w3 ⟨rfl, rfl⟩
  go_wp2_with fail
  go_ret
  obtain ⟨hb, hp'⟩ := hX.out
  have hs := hb.size
  have hbA : Below w2.heap.size w2 ((w2.alloc (.cells #[slv (S' 0), slv (S' 1), slv (S' 2), slv (S' 3), slv (S' 4), slv (S' 5), slv (S' 6)] 24)).alloc (.cells #[.int .i64 t] 2)) := ((Below.refl _ _).alloc (Nat.le_refl _) _).alloc (by simp) _
  exact ⟨w2.heap.size + 1, w2.heap.size, S', rfl, hb.trans (hbA.mono hs), hp'.below hbA, hs, by omega, cell_at (by simp) rfl, (calBox_new S' c _ (fun k hk => by omega)).mv (Mv.alloc _ _ _) (Gr.refl _ _)⟩
set_option maxRecDepth 100000 in
set_option maxHeartbeats 2000000 in
theorem from_no (S : Nat → Sl) (c : Cal.C7) (t : Int) (w : World) (hp : CalPin (fun _ => False) w S c) (hg : GlP w) (hI : isB c = false) :
    Calls Tryd.prog 10 #[aggC S, .int .i64 t] w fun e w' => e = .returned (.func (.func 19) #[] #[]) ∧ Below w.heap.size w w' := by
  have hB : Below w.heap.size w (w.alloc (.cells #[slv (S 0), slv (S 1), slv (S 2), slv (S 3), slv (S 4), slv (S 5), slv (S 6)] 24)) := (Below.refl _ _).alloc (Nat.le_refl _) _
  have hIs := isC_any S c _ (hp.below hB) (hg.below hB).gl
  rw [hI] at hIs
  go_enter Tryd.func10, Tryd.ntmps10
  go_wp2_with fail
  refine hIs.mono ?_
  rintro e w1 ⟨rfl, hb1⟩
  have hb01 := hB.trans (hb1.mono hB.size)
  clear hIs hb1
  go_wp2_with fail
  go_ret
  exact ⟨rfl, hb01⟩
set_option maxHeartbeats 1000000 in
theorem from1_none (v : Value) (w : World) : Calls Tryd.prog 19 #[v] w fun e w' => e = .returned (.tuple #[]) ∧ w' = w := by
  go_enter Tryd.func19, Tryd.ntmps19
  go_wp2
  go_end0
  exact ⟨rfl, rfl⟩
/-- What CalendarFrom's closure has gathered. -/
structure FJ (B pl pn n : Nat) (acc : List Int) (v : Value) (W : World) : Prop where
  cl : Cl pl v W
  cn : W.cell? ⟨pn, 0, none⟩ = some (.int .i64 n)
  ow : W.ownsRow B 2 1 v acc.length (acc.map (Value.int .i64))
def JF (B pl pn n : Nat) (T : List Int) (rest : List Int) (E : Nat → Prop) (W : World) : Prop := ∃ v acc, ((∀ k, E k ↔ (k = pl ∨ v.ownBlock = some k)) ∧ acc ++ rest = T ∧ acc.length < n) ∧ FJ B pl pn n acc v W
def JFx (B pl pn n : Nat) (T : List Int) (_ : Unit) (E : Nat → Prop) (W : World) : Prop := ∃ v acc, ((∀ k, E k ↔ (k = pl ∨ v.ownBlock = some k)) ∧ (∃ r, acc ++ r = T) ∧ acc.length = n) ∧ FJ B pl pn n acc v W
theorem FJ.mv {B pl pn n : Nat} {acc : List Int} {v : Value} {E : Nat → Prop} {W V : World} (h : FJ B pl pn n acc v W) (m : Mv E W V) (h1 : ¬ E pl) (h2 : ¬ E pn) (h3 : ∀ k, v.ownBlock = some k → ¬ E k) : FJ B pl pn n acc v V :=
  ⟨h.cl.mv m h1, m.cell h2 h.cn, own_mv h.ow m h3⟩
theorem JF.ter (B pl pn n C : Nat) (T : List Int) (hpn : pn < C) : Ter C (JF B pl pn n T) := by
  refine ⟨?_, ?_⟩
  · rintro s E W V ⟨v, acc, ⟨hE, h⟩, hj⟩ m
    exact ⟨v, acc, ⟨hE, h⟩, hj.mv m (fun h => h.1 ((hE _).2 (.inl rfl))) (fun h => by omega) (fun k hk h => h.1 ((hE _).2 (.inr hk)))⟩
  · rintro s E W ⟨v, acc, ⟨hE, h⟩, hj⟩ k hk
    rcases (hE k).1 hk with rfl | hk
    · exact hj.cl.lt
    · exact (hj.ow.lt k hk).2
theorem JFx.ter (B pl pn n C : Nat) (T : List Int) (hpn : pn < C) : Ter C (JFx B pl pn n T) := by
  refine ⟨?_, ?_⟩
  · rintro s E W V ⟨v, acc, ⟨hE, h⟩, hj⟩ m
    exact ⟨v, acc, ⟨hE, h⟩, hj.mv m (fun h => h.1 ((hE _).2 (.inl rfl))) (fun h => by omega) (fun k hk h => h.1 ((hE _).2 (.inr hk)))⟩
  · rintro s E W ⟨v, acc, ⟨hE, h⟩, hj⟩ k hk
    rcases (hE k).1 hk with rfl | hk
    · exact hj.cl.lt
    · exact (hj.ow.lt k hk).2
theorem yiF (B pl pn n : Nat) (T : List Int) (hpl : pl < B) (hpn : pn < B) (hne : pn ≠ pl) (hn : n ≤ 200) : YiF Tryd.prog 11 #[.pointer (some ⟨pl, 0, none⟩), .pointer (some ⟨pn, 0, none⟩)] encI (fun r E W => JF B pl pn n T r E W ∧ B ≤ W.heap.size) (fun u E W => JFx B pl pn n T u E W ∧ B ≤ W.heap.size) := by
  rintro x rest E W ⟨⟨v, acc, ⟨hE, hT, hl⟩, hj⟩, hBW⟩
  have hc := from1_any B pl pn x n v acc W hBW hpl hpn hne hj.cl hj.cn hj.ow (by omega)
  refine hc.mono ?_
  rintro e V ⟨rfl, v', hcl, hown, hm, hat⟩
  have hmE : Mv E W V := hm.mono (fun k _ h => (hE k).2 h)
  have hj' : FJ B pl pn n (acc ++ [x]) v' V := ⟨hcl, hm.cell (show ¬ (pn = pl ∨ v.ownBlock = some pn) from fun h => by rcases h with h | h; exact hne h; have := (hj.ow.lt _ h).1; omega) hj.cn, by rw [List.length_append]; exact hown⟩
  have hg : Gr E W (fun k => k = pl ∨ v'.ownBlock = some k) := fun k hk => by
    rcases hk with h | h
    · exact .inl ((hE k).2 (.inl h))
    · rcases hat k h with h | h
      · exact .inl ((hE k).2 (.inr h))
      · exact .inr h
  refine ⟨hmE, ?_⟩
  by_cases h : acc.length + 1 < n
  · rw [decide_eq_true h]
    exact .inl ⟨rfl, _, hg, ⟨v', acc ++ [x], ⟨fun _ => Iff.rfl, by simpa using hT, by simpa using h⟩, hj'⟩, Nat.le_trans hBW hm.size⟩
  · rw [decide_eq_false h]
    exact .inr ⟨rfl, _, hg, ⟨v', acc ++ [x], ⟨fun _ => Iff.rfl, ⟨rest, by simpa using hT⟩, by simp; omega⟩, hj'⟩, Nat.le_trans hBW hm.size⟩
end Go.Proofs.YtfjbonhlokbhpaaDoor
