import Derived.Test.YtiinhfbfciccnaaDoorYB
import Derived.Test.YtiinhfbfciccnaaDoorYA
import Derived.Maps.AppendAt
import Derived.Lib.AppendStr
import Derived.Shelf.RegionOpen
import Derived.RegionIn
/- More plain mathematics: cutting at a byte. -/
namespace Go.Proofs.YtiinhfbfciccnaaDoor.Lin
theorem occ1 (l : L) (c : UInt8) (k : Nat) : Lib.occAt l [c] k = (l[k]? == some c) := by
  unfold Lib.occAt
  have : l[k]? = (l.drop k)[0]? := by rw [List.getElem?_drop]; simp
  rw [this]
  cases l.drop k with
  | nil => rfl
  | cons a r =>
    show (c == a && [].isPrefixOf r) = (some a == some c)
    rw [Bool.eq_iff_iff]
    simp
    exact eq_comm
theorem index_at {l : L} {c : UInt8} {k : Nat} (h : Lib.NoOcc l [c] k) (hk : l[k]? = some c) : Lib.index l [c] = k := by
  have hlt : k < l.length := (List.getElem?_eq_some_iff.1 hk).1
  exact Lib.index_hit h (by omega) (by rw [occ1, hk]; simp)
theorem noOcc_next {l : L} {c x : UInt8} {k : Nat} (h : Lib.NoOcc l [c] k) (hk : l[k]? = some x) (hne : x ≠ c) : Lib.NoOcc l [c] (k + 1) :=
  h.succ (by rw [occ1, hk]; simpa using hne)
theorem index_no {l : L} {c : UInt8} (h : Lib.NoOcc l [c] l.length) : Lib.index l [c] = -1 := Lib.index_past (by simp) h (by simp)
theorem index_none' {l : L} {c : UInt8} (h : ∀ x ∈ l, x ≠ c) : Lib.index l [c] = -1 := by
  refine index_no fun j _ => ?_
  rw [occ1]
  cases hj : l[j]? with
  | none => rfl
  | some x => simpa using h x (List.mem_of_getElem? hj)
theorem index_split {a b : L} {c : UInt8} (h : ∀ x ∈ a, x ≠ c) : Lib.index (a ++ c :: b) [c] = a.length := by
  refine index_at (fun j hj => ?_) (by simp)
  rw [occ1, List.getElem?_append_left hj]
  cases hx : a[j]? with
  | none => rfl
  | some x => simpa using h x (List.mem_of_getElem? hx)
theorem cut_none {l : L} {c : UInt8} (h : ∀ x ∈ l, x ≠ c) : Lib.cut l [c] = (l, [], false) := by
  unfold Lib.cut
  rw [index_none' h, if_neg (by omega)]
theorem cut_split {a b : L} {c : UInt8} (h : ∀ x ∈ a, x ≠ c) : Lib.cut (a ++ c :: b) [c] = (a, b, true) := by
  unfold Lib.cut
  rw [index_split h, if_pos (by omega)]
  simp
theorem split_cases (l : L) (c : UInt8) : (∀ x ∈ l, x ≠ c) ∨ ∃ a b, l = a ++ c :: b ∧ ∀ x ∈ a, x ≠ c := by
  induction l with
  | nil => exact .inl (by simp)
  | cons d r ih =>
    by_cases hd : d = c
    · exact .inr ⟨[], r, by simp [hd], by simp⟩
    · rcases ih with h | ⟨a, b, rfl, h⟩
      · exact .inl (by intro x hx; rcases List.mem_cons.1 hx with rfl | hx; exact hd; exact h x hx)
      · exact .inr ⟨d :: a, b, rfl, by intro x hx; rcases List.mem_cons.1 hx with rfl | hx; exact hd; exact h x hx⟩
end Go.Proofs.YtiinhfbfciccnaaDoor.Lin
/- The row of strings.SplitSeq at one line feed: a row that keeps its own place in a box; the law of a loop over such a row. -/
namespace Go.Proofs.YtiinhfbfciccnaaDoor
open Go.RowKit Go.Shelf Lin
attribute [local go_sem] Oper.semAt_some
/-- Function g with what it has captured is the row xs, once; it turns its own block o besides. -/
def RowB (P : Program) {α : Type} (g : Nat) (lb : Array Value) (enc : α → Array Value) (xs : List α) (o B : Nat) (E : Nat → Prop) (W : World) : Prop :=
  ∀ (l : Nat) (J : List α → (Nat → Prop) → World → Prop) (Jx : Unit → (Nat → Prop) → World → Prop) (E1 : Nat → Prop) (V : World),
    Mv E W V → Gr E W E1 → Ter B J → Ter B Jx → Yi P l enc J Jx → J xs E1 V →
    Calls P g (#[.func (.yield l) #[] #[]] ++ lb) V fun e V' => (∃ v, e = .returned v) ∧ Mv (fun k => E1 k ∨ k = o) V V' ∧ ((∃ E', Gr E1 V E' ∧ J [] E' V') ∨ (∃ E', Gr E1 V E' ∧ Jx () E' V'))
def encS (l : L) : Array Value := #[.string ⟨l.toArray⟩]
def boxLen (o : Nat) (w : World) : Nat := ((w.cell? ⟨o, 0, none⟩).map strLen).getD 0
theorem boxLen_of {o : Nat} {w : World} {r : ByteArray} (h : w.cell? ⟨o, 0, none⟩ = some (.string r)) : boxLen o w = r.size := by unfold boxLen; rw [h]; rfl
theorem Mv.set {E : Nat → Prop} {W : World} {o : Nat} (h : E o) (v : Value) : Mv E W (W.setCell ⟨o, 0, none⟩ v) :=
  ⟨rfl, rfl, rfl, by simp, fun b _ he => heap_setCell_other _ _ _ _ (fun e => he (e ▸ h))⟩
set_option maxRecDepth 100000 in
set_option maxHeartbeats 4000000 in
theorem split1_row (s : ByteArray) (o b1 b3 B : Nat) (mx : Int) (E : Nat → Prop) (W : World) (hs : s.size ≤ 2000000) (hB : B ≤ o)
    (c0 : W.cell? ⟨o, 0, none⟩ = some (.string s)) (z0 : W.frozen? ⟨o, 0, none⟩ = false) (e0 : ¬ E o) (c1 : W.cell? ⟨b1, 0, none⟩ = some (.string ⟨#[10]⟩)) (e1 : ¬ E b1) (n1 : b1 ≠ o)
    (c3 : W.cell? ⟨b3, 0, none⟩ = some (.int .i64 0)) (e3 : ¬ E b3) (n3 : b3 ≠ o) (cm : W.cell? ⟨0, 0, none⟩ = some (.int .i64 mx)) (em : ¬ E 0) (nm : 0 ≠ o) :
    RowB Tryd.prog 75 #[.pointer (some ⟨b1, 0, none⟩), .pointer (some ⟨o, 0, none⟩), .pointer (some ⟨b3, 0, none⟩)] encS (pieces s.data.toList) o B E W := by
  intro l J Jx E1 V m g hJ hJx hY h0
  have d0 := m.cell e0 c0
  have d1 := m.cell e1 c1
  have d3 := m.cell e3 c3
  have dm := m.cell em cm
  have zV := (m.froz (a := ⟨o, 0, none⟩) e0 (cell_lt c0)).trans z0
  have f0 : ¬ E1 o := Gr.free g (cell_lt c0) e0
  have f1 : ¬ E1 b1 := Gr.free g (cell_lt c1) e1
  have f3 : ¬ E1 b3 := Gr.free g (cell_lt c3) e3
  have fm : ¬ E1 0 := Gr.free g (cell_lt cm) em
  have lo : o < V.heap.size := cell_lt d0
  refine (callsIn_wide (n := 5)).1 ?_
  refine callsIn_of_wp Tryd.func75 rfl trivial ?_ rfl
  simp only [Tryd.ntmps75, List.size_toArray, List.length_cons, List.length_nil, Nat.reduceAdd, Nat.reduceSub, Array.replicate_succ, Array.replicate_zero, List.push_toArray, List.append_toArray, List.nil_append, List.cons_append]
  gi_wp2_with fail
  gi_loopw [7] (fun _ wr => ∃ (r : ByteArray) (E2 : Nat → Prop), r.size ≤ s.size ∧ wr.cell? ⟨o, 0, none⟩ = some (.string r) ∧ wr.frozen? ⟨o, 0, none⟩ = false ∧ Hid (J (pieces r.data.toList) E2 wr) ∧ Hid (Mv (fun k => E1 k ∨ k = o) V wr) ∧ Hid (Gr E1 V E2)) (fun _ wr => boxLen o wr)
  case atStart => exact ⟨s, E1, Nat.le_refl _, d0, zV, h0, Mv.refl _ _, Gr.refl _ _⟩
  case round =>
    obtain ⟨r, E2, hz, k0, kz, hj, hm, hg⟩ := hrel
    have lw : o < wr.heap.size := cell_lt k0
    have gF : Gr (fun k => E1 k ∨ k = o) V E2 := fun k hk => (hg.out k hk).imp Or.inl id
    have hsz := hm.out.size
    have k1 := hm.out.cell (by rintro (h | h); exact f1 h; exact n1 h) d1
    have k3 := hm.out.cell (by rintro (h | h); exact f3 h; exact n3 h) d3
    have km := hm.out.cell (by rintro (h | h); exact fm h; exact nm h) dm
    have g0 : ¬ E2 o := Gr.free hg.out lo f0
    have hix := Tryd.strings_Index r ⟨#[10]⟩ mx wr (by omega) km
    rcases split_cases r.data.toList 10 with hno | ⟨a, b, hab, hno⟩
    · rw [show (⟨#[10]⟩ : ByteArray).data.toList = [10] from rfl, index_none' hno] at hix
      have hj' := hj.out
      rw [pieces_none _ hno] at hj'
      obtain ⟨fn, tmps, assign, body, hy, hR⟩ := hY _ _ E2 wr hj'
      dsimp only [encS] at hy
      rw [Lib.mk_data] at hy
      gi_wp2_with fail
      refine ⟨trivial, (callsIn_wide.2 hix).mono ?_⟩
      rintro e w2 ⟨rfl, rfl⟩
      gi_wp2_with fail
      refine (wide_round' hR).mono ?_
      rintro e W3 ⟨m3, (⟨rfl, E3, g3, hj3⟩ | ⟨rfl, E3, g3, hj3⟩)⟩
      · gi_wp2_with fail
        go_end0
        exact ⟨⟨_, rfl⟩, hm.out.trans gF m3, .inl ⟨E3, hg.out.trans hsz g3, hj3⟩⟩
      · gi_wp2_with fail
        go_end0
        exact ⟨⟨_, rfl⟩, hm.out.trans gF m3, .inr ⟨E3, hg.out.trans hsz g3, hj3⟩⟩
    · have hj' := hj.out
      rw [hab, pieces_split _ _ hno] at hj'
      rw [show (⟨#[10]⟩ : ByteArray).data.toList = [10] from rfl, hab, index_split hno] at hix
      obtain ⟨A, rfl, hAz, hAe⟩ := letters a
      obtain ⟨R, rfl, hRz, hRe⟩ := letters b
      rw [← hAz] at hix
      have hrz : r.size = A.size + 1 + R.size := by
        have := congrArg List.length hab
        rw [List.length_append, List.length_cons, size_list, size_list, size_list] at this
        omega
      have hxA : r.extract 0 A.size = A := by
        rw [Lib.extract_eq, hab, List.drop_zero, Nat.sub_zero, ← size_list, List.take_left, Lib.mk_data]
      have hxR : r.extract (A.size + 1) r.size = R := by
        rw [Lib.extract_eq, hab, ← size_list A, List.drop_append, List.drop_of_length_le (by omega)]
        rw [show A.data.toList.length + 1 - A.data.toList.length = 1 by omega, List.nil_append, List.drop_succ_cons, List.drop_zero, List.take_of_length_le (by rw [size_list, size_list]; omega), Lib.mk_data]
      have i1 : (A.size : Int) ≤ (r.size : Int) := by omega
      have i2 : (A.size : Int) + 1 ≤ (r.size : Int) := by omega
      have hRle : R.size < r.size := by omega
      have hHz : Hid (r.size = A.size + 1 + R.size) := hrz
      obtain ⟨fn, tmps, assign, body, hy, hR⟩ := hY _ _ E2 wr hj'
      dsimp only [encS] at hy
      rw [Lib.mk_data] at hy
      clear hrz hab hno hAz hAe hRz hRe
      gi_wp2_with fail
      refine ⟨trivial, (callsIn_wide.2 hix).mono ?_⟩
      rintro e w2 ⟨rfl, rfl⟩
      gi_wp2_with fail
      refine (wide_round' hR).mono ?_
      rintro e W3 ⟨m3, (⟨rfl, E3, g3, hj3⟩ | ⟨rfl, E3, g3, hj3⟩)⟩
      · have k0' := m3.cell g0 k0
        have kz' := (m3.froz (a := ⟨o, 0, none⟩) g0 lw).trans kz
        have k1' := m3.cell (Gr.free hg.out (cell_lt d1) f1) k1
        gi_wp2_with fail
        have cN : (W3.setCell ⟨o, 0, none⟩ (.string R)).cell? ⟨o, 0, none⟩ = some (.string R) := World.cell?_setCell_same' _ _ _ (by rw [k0']; rfl)
        have zN : (W3.setCell ⟨o, 0, none⟩ (.string R)).frozen? ⟨o, 0, none⟩ = false := by rw [World.frozen?_setCell]; exact kz'
        exact ⟨⟨R, E3, by omega, cN, zN, hJ.keep _ _ _ _ hj3 (Mv.set ⟨Gr.free g3 lw g0, hB⟩ _), (hm.out.trans gF m3).trans' (Mv.set (.inr rfl) _), hg.out.trans hsz g3⟩, by rw [boxLen_of cN, boxLen_of k0]; exact hRle⟩
      · gi_wp2_with fail
        refine bodyPost_ret (results_none rfl _ _ _) rfl ?_
        exact ⟨⟨_, rfl⟩, hm.out.trans gF m3, .inr ⟨E3, hg.out.trans hsz g3, hj3⟩⟩
end Go.Proofs.YtiinhfbfciccnaaDoor
/- The law of a loop over a row that turns its own block; the contract of package name's hasParts. -/
namespace Go.Proofs.YtiinhfbfciccnaaDoor
open Go.RowKit Go.Shelf Lin
attribute [local go_sem] Oper.semAt_some
/-- A loop over a row that turns its own block, outside of all rounds. -/
theorem loop_outB {P : Program} {α : Type} {n : Nat} {g : Operand} {ps : Array Tmp} {assign body : Code} {Q : Exit → Act → World → Prop} {a : Act} {w : World} {gf : Nat} {lb : Array Value}
    (hg : a.eval g = .func (.func gf) #[] lb) (eg : ∀ args w, (callFunc gf args).run P w = .ok (.enter gf args) w) {enc : α → Array Value} {xs : List α} {E : Nat → Prop}
    {o : Nat} (w0 : World) (hw0 : Mv E w0 w) (ho : o < w.heap.size) (hrow : RowB P gf lb enc xs o w0.heap.size E w) (hps : ∀ x, (enc x).size = ps.size) (I : List α → (Nat → Prop) → World → Prop) (Ix : Code → (Nat → Prop) → World → Prop) (hI : Ter w0.heap.size I) (hIx : Ter w0.heap.size Ix) (h0 : I xs E w)
    (hround : ∀ l, w.heap.size ≤ l → RoundOk P ps assign body enc I Ix a.tmps E w0 l)
    (hdone : ∀ D E' W, w.heap.size ≤ D → W.heap[D]? = some (.deferred (some [])) → ¬ E' D → Mv E w0 W → Gr E w0 E' → I [] E' W → Q .normal { a with defers := { target := .collected D, args := #[] } :: a.defers } W)
    (hstop : ∀ D c E' W, w.heap.size ≤ D → W.heap[D]? = some (.deferred (some [])) → ¬ E' D → Mv E w0 W → Gr E w0 E' → Ix c E' W → c.wpIn Fence.wide n P Q { a with defers := { target := .collected D, args := #[] } :: a.defers } W) :
    (Code.rangeFunc g ps assign body).wpIn Fence.wide n P Q a w := by
  refine wpIn_rangeFunc ?_
  intro fn _
  have hlow := hI.low _ _ _ h0
  have hw0s := hw0.size
  obtain ⟨W1, hW1⟩ : ∃ W1, (w.alloc (.deferred (some []))).alloc (.loop { state := .ready, pending := none, fn := fn, tmps := a.tmps, params := ps, assign := assign, body := body, defers := w.heap.size }) = W1 := ⟨_, rfl⟩
  have hL1 : W1.heap[w.heap.size + 1]? = some (.loop { state := .ready, pending := none, fn := fn, tmps := a.tmps, params := ps, assign := assign, body := body, defers := w.heap.size }) := by
    rw [← hW1]; have := World.alloc_heap_new (w.alloc (.deferred (some []))) (.loop { state := .ready, pending := none, fn := fn, tmps := a.tmps, params := ps, assign := assign, body := body, defers := w.heap.size }); rwa [World.size_alloc] at this
  have hK1 : W1.heap[w.heap.size]? = some (.deferred (some [])) := by
    rw [← hW1]; exact (Below.heap_alloc _ _ _ (by simp)).trans (World.alloc_heap_new w _)
  have hs1 : W1.heap.size = w.heap.size + 2 := by rw [← hW1]; simp
  have m1 : Mv E w W1 := by rw [← hW1]; exact (Mv.alloc _ _ _).trans' (Mv.alloc _ _ _)
  have g1 : Gr E w (fun k => E k ∨ k = w.heap.size + 1) := fun k hk => hk.imp id (fun e => by omega)
  refine ⟨w.heap.size + 1, [{ target := .collected w.heap.size, args := #[] }], W1, { target := .fn (.func gf) lb, args := #[.func (.yield (w.heap.size + 1)) #[] #[]] }, W1, gf, #[.func (.yield (w.heap.size + 1)) #[] #[]] ++ lb, W1, ?_, ?_, fun _ _ => trivial, ?_, fun h => (by cases h), callsIn_wide.2 ?_⟩
  · rw [← hW1]; exact run_enterLoop_outer _ _ _ _ _
  · simp only [resolve, hg]
    simp [go_sem]
  · simp [invoke, go_sem, eg]
  · refine (hrow (w.heap.size + 1) _ _ (fun k => E k ∨ k = w.heap.size + 1) W1 m1 g1 ?_ ?_ (yi_of_round (fn := fn) (D := w.heap.size) (by omega) (by omega) hI hIx hps (hround _ (by omega))) ?_).mono ?_
    · refine ⟨fun s E1 W V h m => ?_, fun s E1 W h k hk => ?_⟩
      · obtain ⟨E0, hE, hEl, ⟨hi, hmw, hgw⟩, hl⟩ := h
        refine ⟨E0, hE, hEl, ⟨hI.keep _ _ _ _ hi (m.out (fun k _ h => ⟨fun e => h.1 ((hE k).2 (.inl e)), by omega⟩)), ?_, hgw⟩, ?_⟩
        · exact ⟨m.os.trans hmw.os, m.tape.trans hmw.tape, m.output.trans hmw.output, Nat.le_trans hmw.size m.size, fun k hk he => (m.block k (Nat.lt_of_lt_of_le hk hmw.size) (fun h => by omega)).trans (hmw.block k hk he)⟩
        · exact (m.block _ (Array.getElem?_eq_some_iff.1 hl).1 (fun h => h.1 ((hE _).2 (.inr rfl)))).trans hl
      · obtain ⟨E0, hE, hEl, ⟨hi, hmw, hgw⟩, hl⟩ := h
        rcases (hE k).1 hk with h | rfl
        · exact hI.low _ _ _ hi k h
        · exact (Array.getElem?_eq_some_iff.1 hl).1
    · refine ⟨fun s E1 W V h m => ?_, fun s E1 W h k hk => ?_⟩
      · obtain ⟨E0, c, hE, hEl, ⟨hi, hmw, hgw⟩, hl⟩ := h
        refine ⟨E0, c, hE, hEl, ⟨hIx.keep _ _ _ _ hi (m.out (fun k _ h => ⟨fun e => h.1 ((hE k).2 (.inl e)), by omega⟩)), ?_, hgw⟩, ?_⟩
        · exact ⟨m.os.trans hmw.os, m.tape.trans hmw.tape, m.output.trans hmw.output, Nat.le_trans hmw.size m.size, fun k hk he => (m.block k (Nat.lt_of_lt_of_le hk hmw.size) (fun h => by omega)).trans (hmw.block k hk he)⟩
        · exact (m.block _ (Array.getElem?_eq_some_iff.1 hl).1 (fun h => h.1 ((hE _).2 (.inr rfl)))).trans hl
      · obtain ⟨E0, c, hE, hEl, ⟨hi, hmw, hgw⟩, hl⟩ := h
        rcases (hE k).1 hk with h | rfl
        · exact hIx.low _ _ _ hi k h
        · exact (Array.getElem?_eq_some_iff.1 hl).1
    · exact ⟨E, fun k => Iff.rfl, fun h => by have := hlow _ h; omega, ⟨hI.keep _ _ _ _ h0 (by rw [← hW1]; exact (Mv.alloc _ _ _).trans' (Mv.alloc _ _ _)), hw0.trans' m1, Gr.refl _ _⟩, hL1⟩
    · rintro e W2 ⟨⟨v, rfl⟩, m2, (⟨E1, g2, E0, hE, hEl, ⟨hi, mW, gW⟩, hl⟩ | ⟨E1, g2, E0, c, hE, hEl, ⟨hi, mW, gW⟩, hl⟩)⟩
      all_goals
        have hKD : W2.heap[w.heap.size]? = some (.deferred (some [])) := (m2.block _ (by omega) (fun h => by rcases h with (h | h) | h; exact absurd (hlow _ h) (by omega); omega; omega)).trans hK1
        have nD : ¬ E0 w.heap.size := fun h => by
          rcases g2 _ ((hE _).2 (.inl h)) with (h | h) | h
          · exact absurd (hlow _ h) (by omega)
          · omega
          · omega
      · refine ⟨none, _, run_endLoop hl (by simp), ?_⟩
        exact hdone w.heap.size E0 _ (Nat.le_refl _) ((World.putObj_heap_other (by omega)).trans hKD) nD (mW.put_new (by omega) _) gW (hI.keep _ _ _ _ hi (.put ⟨hEl, by omega⟩ _))
      · refine ⟨some c, _, run_endLoop hl (by simp), ?_⟩
        exact hstop w.heap.size c E0 _ (Nat.le_refl _) ((World.putObj_heap_other (by omega)).trans hKD) nD (mW.put_new (by omega) _) gW (hIx.keep _ _ _ _ hi (.put ⟨hEl, by omega⟩ _))
end Go.Proofs.YtiinhfbfciccnaaDoor
/- The methods of strings.Builder, by territories: what each turns is the builder's block, its bytes' block, and what is new. -/
namespace Go.Proofs.YtiinhfbfciccnaaDoor
open Go.RowKit Lin
/-- A builder lies in block b, its row of bytes is v. -/
structure Bld (b : Nat) (v : Value) (x : L) (w : World) : Prop where
  at0 : ∃ p, (p = .pointer none ∨ p = .pointer (some ⟨b, 0, none⟩)) ∧ w.heap[b]? = some (.cells #[p, v] 77 (0, 0))
  own : w.ownsRow 0 5 1 v x.length (Lib.byteCells x)
  ne : v.ownBlock ≠ some b
  nil : x = [] → v = .slice none 0 0
/-- The builder's territory. -/
def Ow (b : Nat) (v : Value) (k : Nat) : Prop := k = b ∨ v.ownBlock = some k
theorem Bld.lt {b : Nat} {v : Value} {x : L} {w : World} (h : Bld b v x w) : b < w.heap.size := by
  obtain ⟨p, _, hp⟩ := h.at0
  exact (Array.getElem?_eq_some_iff.1 hp).1
theorem Bld.lo {b : Nat} {v : Value} {x : L} {w : World} (h : Bld b v x w) (k : Nat) (hk : Ow b v k) : k < w.heap.size := by
  rcases hk with rfl | hk
  · exact h.lt
  · exact (h.own.lt k hk).2
theorem Bld.mv {b : Nat} {v : Value} {x : L} {E : Nat → Prop} {w w' : World} (h : Bld b v x w) (m : Mv E w w') (hE : ∀ k, Ow b v k → ¬ E k) : Bld b v x w' := by
  refine ⟨?_, ?_, h.ne, h.nil⟩
  · obtain ⟨p, hp, hh⟩ := h.at0
    exact ⟨p, hp, (m.block b h.lt (hE b (.inl rfl))).trans hh⟩
  · refine ⟨h.own.1, ?_⟩
    rcases h.own.2 with h2 | ⟨g, cap, cur, h1, h2, h3, h4⟩
    · exact .inl h2
    · exact .inr ⟨g, cap, cur, h1, h2, (m.block g (Array.getElem?_eq_some_iff.1 h3).1 (hE g (.inr (by rw [h1]; rfl)))).trans h3, h4⟩
theorem Bld.isB {b : Nat} {v : Value} {x : L} {w : World} (h : Bld b v x w) : Lib.IsBuilder 77 5 0 b (Lib.byteCells x) w := by
  obtain ⟨p, hp, hh⟩ := h.at0
  have ho := h.own
  rw [← Lib.byteCells_length x] at ho
  rcases hp with rfl | rfl
  · exact .inl ⟨Nat.zero_le _, v, hh, ho, h.ne⟩
  · exact .inr ⟨Nat.zero_le _, v, hh, ho, h.ne⟩
theorem Bld.new (w : World) : Bld w.heap.size (.slice none 0 0) [] (w.alloc (.cells #[.pointer none, .slice none 0 0] 77)) :=
  ⟨⟨_, .inl rfl, heap_alloc_new w _⟩, World.ownsRow_nil _ _ _ _, by simp [Value.ownBlock], fun _ => rfl⟩
set_option maxHeartbeats 1000000 in
theorem copyCheck_mv (b : Nat) (v : Value) (x : L) (w : World) (h : Bld b v x w) :
    Calls Tryd.prog 43 #[.pointer (some ⟨b, 0, none⟩)] w fun e w' => e = .returned (.tuple #[]) ∧ w'.heap[b]? = some (.cells #[.pointer (some ⟨b, 0, none⟩), v] 77 (0, 0)) ∧ Mv (fun k => k = b) w w' := by
  obtain ⟨p, hp, hh⟩ := h.at0
  rcases hp with rfl | rfl
  · refine (Any.Builder_copyCheck_fresh { Tryd.laysW167 with } Tryd.Builder_ExtraW.toX72 b w (by rw [Lib.cell_of_heap hh]; rfl) (by simp [World.shape?, hh]; rfl) (Lib.frozen_of_heap hh 0)).mono ?_
    rintro e w' ⟨rfl, rfl⟩
    refine ⟨rfl, by simp [World.setCell, Array.getElem?_modify, hh], ⟨rfl, rfl, rfl, by simp, fun k _ he => heap_setCell_other _ _ _ _ (fun e => he e)⟩⟩
  · refine (Any.Builder_copyCheck_used { Tryd.laysW167 with } Tryd.Builder_ExtraW.toX72 b w (by rw [Lib.cell_of_heap hh]; rfl)).mono ?_
    rintro e w' ⟨rfl, rfl⟩
    exact ⟨rfl, hh, Mv.refl _ _⟩
theorem bld_put {b : Nat} {v v' : Value} {x : L} {w : World} (hb : w.heap[b]? = some (.cells #[.pointer (some ⟨b, 0, none⟩), v] 77 (0, 0))) (hown : w.ownsRow 0 5 1 v' x.length (Lib.byteCells x)) (hnil : x = [] → v' = .slice none 0 0) : Bld b v' x (w.setCell ⟨b, 1, none⟩ v') := by
  have hne : v'.ownBlock ≠ some b := Lib.ownBlock_ne hown hb (by decide)
  exact ⟨⟨_, .inr rfl, by simp [World.setCell, Array.getElem?_modify, hb]⟩, own_mv hown (E := fun k => k = b) ⟨rfl, rfl, rfl, by simp, fun k _ he => heap_setCell_other _ _ _ _ (fun e => he e)⟩ (fun g hg e => hne (by rw [hg, e])), hne, hnil⟩
/-- What a write leaves. -/
def Wrote (b : Nat) (v : Value) (x : L) (w w' : World) : Prop := ∃ v', Bld b v' x w' ∧ Mv (Ow b v) w w' ∧ ∀ k, v'.ownBlock = some k → v.ownBlock = some k ∨ w.heap.size ≤ k
theorem info8 : (Tryd.prog.info? 5).map (fun i => (i.zero, i.size, i.bytes)) = some (some (.int .u8 0), 1, 1) := by kernel_rfl
set_option maxRecDepth 100000 in
set_option maxHeartbeats 2000000 in
theorem writeByte_mv (b : Nat) (v : Value) (x : L) (c : UInt8) (w : World) (h : Bld b v x w) (hl : x.length ≤ 4000000) :
    Calls Tryd.prog 50 #[.pointer (some ⟨b, 0, none⟩), .int .u8 c.toNat] w fun e w' => e = .returned .nilIface ∧ Wrote b v (x ++ [c]) w w' := by
  obtain ⟨i0, hi, hz0, hz1, hz2⟩ := info_parts info8
  have hcc := copyCheck_mv b v x w h
  have hne := h.ne
  go_enter Tryd.func50, Tryd.ntmps50
  go_wp2_with fail
  refine hcc.mono ?_
  rintro e w1 ⟨rfl, hbk, m1⟩
  have c0 : w1.cell? ⟨b, 0, none⟩ = some (.pointer (some ⟨b, 0, none⟩)) := by rw [Lib.cell_of_heap hbk]; rfl
  have c1 : w1.cell? ⟨b, 1, none⟩ = some v := by rw [Lib.cell_of_heap hbk]; rfl
  have hown := own_mv h.own m1 (fun g hg e => hne (by rw [hg, e]))
  have hr1 := hown.alloc (.cells #[.int .u8 c.toNat] 5)
  have hlt := lt_of_heap hbk
  go_wp2_with (at_builtin; refine wpList_append_own_at _ rfl _ _ 53 rfl 0 5 i0 (.int .u8 0) 1 1 Tryd.underlying53 hi hz0 hz1 hz2 rfl (by decide) _ _ _ rfl hr1 ⟨_, 0, none⟩ 1 1 [.int .u8 c.toNat] rfl rfl (fun j u hj => by match j, hj with | 0, hj => simp at hj; subst hj; simp [Addr.add]) (fun x hx => by simp at hx; rcases hx with rfl <;> rfl) (by unfold maxLen; omega) (by omega) (by omega) ?_)
  intro v' w2 hown' hgrow _ hat
  have hb2 : w2.heap[b]? = some (.cells #[.pointer (some ⟨b, 0, none⟩), v] 77 (0, 0)) := by
    rw [hgrow.block b (by simp; omega) (fun e => hne e.symm), Lib.alloc_old w1 _ b hlt]
    exact hbk
  have d0 : w2.cell? ⟨b, 0, none⟩ = some (.pointer (some ⟨b, 0, none⟩)) := by rw [Lib.cell_of_heap hb2]; rfl
  have d1 : w2.cell? ⟨b, 1, none⟩ = some v := by rw [Lib.cell_of_heap hb2]; rfl
  have f1 : w2.frozen? ⟨b, 1, none⟩ = false := Lib.frozen_of_heap hb2 1
  have m2 : Mv (Ow b v) w w2 := ((m1.mono (fun k _ e => .inl e)).trans' (Mv.alloc _ _ _)).grown hgrow (fun k e => .inl (.inr e))
  have hnew : ∀ k, v'.ownBlock = some k → v.ownBlock = some k ∨ w.heap.size ≤ k := fun k e => by
    rcases hat with ha | ha
    · exact .inl (ha ▸ e)
    · rw [ha] at e
      have := m1.size
      simp at e; omega
  obtain ⟨g, cap, rfl⟩ : ∃ g cap, v' = .slice (some ⟨g, 0, none⟩) (x.length + 1) cap := by
    rcases hown'.2 with ⟨_, h0⟩ | ⟨g, cap, cur, hv, _⟩
    · omega
    · exact ⟨g, cap, hv⟩
  go_wp2_with fail
  go_ret
  refine ⟨rfl, _, ?_, m2.setc (p := ⟨b, 1, none⟩) (.inl (.inl rfl)) _, hnew⟩
  exact bld_put hb2 (by rw [byteCells_snoc, List.length_append]; exact hown') (by simp)
theorem string_at {t u ty e : TypeId} {i : TypeInfo} (ht : Tryd.prog.underlying t = some (.slice e)) (hu : Tryd.prog.underlying u = some .string) (hi : Tryd.prog.info? e = some i) (hz : i.zero = some (.int .u8 0)) (hsize : i.size = 1) (hby : i.bytes = 1)
    {w w' : World} {v v' : Value} {n : Nat} {xs : List Value} (hown : w.ownsRow 0 e 1 v n xs) (s : ByteArray) (h63 : n + s.size ≤ 8000000) (hr : (Builtin.append_ #[t, u] ty #[v, .string s]).run Tryd.prog w = .ok v' w') : v'.ownBlock = v.ownBlock ∨ v'.ownBlock = some w.heap.size := by
  have hxl : xs.length = n := by simpa using hown.1
  rcases hown.2 with ⟨rfl, rfl⟩ | ⟨g, cap, cur, rfl, hbg, hg, hnc, hcm, hcs, htake⟩
  · by_cases hm : s.size = 0
    · left
      have hf := Lib.run_firstCells_string (P := Tryd.prog) w 1 s
      rw [hm] at hf
      simp [Builtin.append_, run_underlying ht, run_underlying hu, sizeOf, typeInfo, hi, hsize, Builtin.lenOf, hm, hf] at hr
      rw [← hr.1]
    · right
      have := run_append_nil_string (P := Tryd.prog) w t u ty e i (.int .u8 0) ht hu hi hz s (by omega) (by omega) (by rw [hby]; omega)
      rw [this] at hr
      cases hr
      rfl
  · by_cases hroom : n + s.size ≤ cap
    · left
      have := Lib.run_append_room_string (P := Tryd.prog) w t u ty e i ht hu hi hsize g n cap cur hg s hroom (by omega)
      rw [this] at hr
      cases hr
      rfl
    · right
      have := Lib.run_append_grow_string (P := Tryd.prog) w t u ty e i (.int .u8 0) ht hu hi hz ⟨g, 0, none⟩ n cap xs (by rw [hsize]; simpa using hxl) (hown.cells (g := g) rfl) s (by omega) (by omega) (by rw [hby]; exact growslice_fits (by omega) (by omega))
      rw [this] at hr
      cases hr
      rfl
theorem wpList_run {ops : Array Oper} {rest : List Oper} {o : Oper} {a : Act} {Q : Exit → Act → World → Prop} {w : World} (hgd : o.guard = none) (s x : Operand) (t u : TypeId) (ho : o.op = .call { callee := .builtin .append, args := #[s, x], argTypes := #[t, u] })
    (v y v' : Value) (w' : World) (hs : a.eval s = v) (hx : a.eval x = y) (hr : (Builtin.append_ #[t, u] o.type #[v, y]).run Tryd.prog w = .ok v' w') (h : wpList Tryd.prog ops Q rest (a.put o.dst v') w') : wpList Tryd.prog ops Q (o :: rest) a w := by
  refine wpList_plain hgd fun K hK => ?_
  unfold Oper.wp execOp
  simp only [ho, resolve, invoke, builtin, Sem.run_bind, Sem.run_pure, Result.andThen_ok, List.map_toArray, List.map_cons, List.map_nil, hs, hx, hr]
  exact hK _ _ h
set_option maxRecDepth 100000 in
set_option maxHeartbeats 2000000 in
theorem writeString_mv (b : Nat) (v : Value) (x : L) (s : ByteArray) (w : World) (h : Bld b v x w) (hl : x.length ≤ 4000000) (hs : s.size ≤ 4000000) :
    Calls Tryd.prog 30 #[.pointer (some ⟨b, 0, none⟩), .string s] w fun e w' => (∃ r, e = .returned r) ∧ Wrote b v (x ++ s.data.toList) w w' := by
  obtain ⟨i0, hi, hz0, hz1, hz2⟩ := info_parts info8
  have hcc := copyCheck_mv b v x w h
  have hne := h.ne
  go_enter Tryd.func30, Tryd.ntmps30
  go_wp2_with fail
  refine hcc.mono ?_
  rintro e w1 ⟨rfl, hbk, m1⟩
  have c0 : w1.cell? ⟨b, 0, none⟩ = some (.pointer (some ⟨b, 0, none⟩)) := by rw [Lib.cell_of_heap hbk]; rfl
  have c1 : w1.cell? ⟨b, 1, none⟩ = some v := by rw [Lib.cell_of_heap hbk]; rfl
  have hown := own_mv h.own m1 (fun g hg e => hne (by rw [hg, e]))
  have hlt := lt_of_heap hbk
  have hat := fun ty v' w' => string_at (ty := ty) Tryd.underlying53 Tryd.underlying9 hi hz0 hz1 hz2 (w := w1) (w' := w') (v' := v') hown s (by omega)
  obtain ⟨v', w2, hrun, hown', hgrow, hnl⟩ := Lib.run_append_own_string (P := Tryd.prog) w1 0 53 9 53 5 i0 Tryd.underlying53 Tryd.underlying9 hi hz0 hz1 hz2 v x.length (Lib.byteCells x) hown s (by unfold maxLen; omega) (by omega) (by omega)
  have hat' := hat _ _ _ hrun
  clear hat
  have hb2 : w2.heap[b]? = some (.cells #[.pointer (some ⟨b, 0, none⟩), v] 77 (0, 0)) := by
    rw [hgrow.block b hlt (fun e => hne e.symm)]
    exact hbk
  have d0 : w2.cell? ⟨b, 0, none⟩ = some (.pointer (some ⟨b, 0, none⟩)) := by rw [Lib.cell_of_heap hb2]; rfl
  have d1 : w2.cell? ⟨b, 1, none⟩ = some v := by rw [Lib.cell_of_heap hb2]; rfl
  have f1 : w2.frozen? ⟨b, 1, none⟩ = false := Lib.frozen_of_heap hb2 1
  have m2 : Mv (Ow b v) w w2 := (m1.mono (fun k _ e => .inl e)).grown hgrow (fun k e => .inl (.inr e))
  have hnew : ∀ k, v'.ownBlock = some k → v.ownBlock = some k ∨ w.heap.size ≤ k := fun k e => by
    rcases hat' with ha | ha
    · exact .inl (ha ▸ e)
    · rw [ha] at e
      have h1 : w1.heap.size = k := Option.some.inj e
      have := m1.size
      omega
  have hput : Bld b v' (x ++ s.data.toList) (w2.setCell ⟨b, 1, none⟩ v') := bld_put hb2 (by
    have e1 : Lib.byteCells (x ++ s.data.toList) = Lib.byteCells x ++ Lib.strCells s := by simp [Lib.byteCells, Lib.strCells]
    rw [e1, List.length_append, size_list]; exact hown') (fun e => by
      obtain ⟨e1, e2⟩ := List.append_eq_nil_iff.1 e
      exact hnl.2 ⟨h.nil e1, by rw [← size_list, e2]; rfl⟩)
  obtain ⟨ao, n', cap, rfl⟩ : ∃ ao n' cap, v' = .slice ao n' cap := by
    rcases hown'.2 with ⟨hv, _⟩ | ⟨g, cap, cur, hv, _⟩
    · exact ⟨_, _, _, hv⟩
    · exact ⟨_, _, _, hv⟩
  go_wp2_with (at_builtin; refine wpList_run rfl _ _ 53 9 rfl _ _ _ w2 rfl rfl hrun ?_)
  go_ret2
  exact ⟨⟨_, rfl⟩, _, hput, m2.setc (p := ⟨b, 1, none⟩) (.inl (.inl rfl)) _, hnew⟩
end Go.Proofs.YtiinhfbfciccnaaDoor
/- The methods String and Reset of strings.Builder, by territories. -/
namespace Go.Proofs.YtiinhfbfciccnaaDoor
open Go.RowKit Lin
theorem freeze_other (w : World) (p : Addr) (n k : Nat) (h : k ≠ p.block) : (w.freeze p n).heap[k]? = w.heap[k]? := by
  unfold World.freeze
  split
  · rfl
  · simp only [Array.getElem?_modify]
    rw [if_neg (fun e => h e.symm)]
theorem freeze_size (w : World) (p : Addr) (n : Nat) : (w.freeze p n).heap.size = w.heap.size := by
  unfold World.freeze
  split
  · rfl
  · simp
set_option maxRecDepth 100000 in
set_option maxHeartbeats 2000000 in
theorem string_mv (b : Nat) (v : Value) (x : L) (w : World) (h : Bld b v x w) (hl : x.length ≤ 4000000) :
    Calls Tryd.prog 31 #[.pointer (some ⟨b, 0, none⟩)] w fun e w' => e = .returned (.string ⟨x.toArray⟩) ∧ Mv (Ow b v) w w' ∧ w'.heap[b]? = w.heap[b]? := by
  obtain ⟨p, _, hbk⟩ := h.at0
  have c1 : w.drew.cell? ⟨b, 1, none⟩ = some v := by
    have : w.drew.heap[b]? = some (.cells #[p, v] 77 (0, 0)) := hbk
    rw [Lib.cell_of_heap this]; rfl
  cases hx : x with
  | nil =>
    have hv := h.nil hx
    subst hv
    have hUS := fun W q => Lib.run_unsafeString_none (P := Tryd.prog) W 99 3 9 q
    have hSD : (Builtin.unsafeSliceData_ #[53] 99 #[.slice none 0 0]).run Tryd.prog w.drew = .ok (.pointer none) w.drew := rfl
    have mixed : Tryd.prog.follows .mixedOrders = true := by kernel_rfl
    go_enter Tryd.func31, Tryd.ntmps31
    go_wp2_with fail
    go_region_o
    all_goals (go_wp2; go_ret; exact ⟨rfl, Mv.drew _ _, rfl⟩)
  | cons c0 r0 =>
    have h0 : x ≠ [] := by rw [hx]; simp
    rw [← hx]
    clear hx
    have hown := h.own
    obtain ⟨g, cap, cur, rfl, hbg, hg, hnc, hcm, hcs, htake⟩ : ∃ g cap cur, v = .slice (some ⟨g, 0, none⟩) x.length cap ∧ 0 ≤ g ∧ w.heap[g]? = some (.cells cur 5 (0, 0)) ∧ x.length ≤ cap ∧ cap ≤ maxLen ∧ cur.size = cap * 1 ∧ cur.toList.take (x.length * 1) = Lib.byteCells x := by
      rcases hown.2 with ⟨_, hz⟩ | ⟨g, cap, cur, hv, r⟩
      · exact absurd (List.length_eq_zero_iff.1 hz) h0
      · exact ⟨g, cap, cur, hv, r⟩
    have hxl : x.length ≠ 0 := fun e => h0 (List.length_eq_zero_iff.1 e)
    have hSD : (Builtin.unsafeSliceData_ #[53] 99 #[.slice (some ⟨g, 0, none⟩) x.length cap]).run Tryd.prog w.drew = .ok (.pointer (some ⟨g, 0, none⟩)) w.drew :=
      Lib.run_unsafeSliceData_row _ _ _ _ _ _ (by omega)
    have hUS : (Builtin.unsafeString_ #[99, 3] 9 #[.pointer (some ⟨g, 0, none⟩), .int .i64 x.length]).run Tryd.prog w.drew = .ok (.string ⟨x.toArray⟩) (w.drew.freeze ⟨g, 0, none⟩ x.length) := by
      refine Lib.run_unsafeString_row w.drew 99 3 9 5 Tryd.underlying99 (by kernel_rfl) g cur.size (by have hg' : w.drew.heap[g]? = some (.cells cur 5 (0, 0)) := hg; simp [World.shape?, hg']) x h0 (by omega) (by unfold maxLen at hcm; omega) ?_
      intro j y hy
      have := hown.cells (g := g) rfl j (.int .u8 y.toNat) (by simp [Lib.byteCells, hy])
      exact this
    have hbg2 : b ≠ g := fun e => h.ne (by rw [e]; rfl)
    have hfin : Mv (Ow b (.slice (some ⟨g, 0, none⟩) x.length cap)) w (w.drew.freeze ⟨g, 0, none⟩ x.length) ∧ (w.drew.freeze ⟨g, 0, none⟩ x.length).heap[b]? = w.heap[b]? := by
      have hb := Lib.below_freeze (Below.drew (Below.refl 0 w)) (p := ⟨g, 0, none⟩) hbg x.length
      exact ⟨⟨hb.os, hb.tape, hb.output, by rw [freeze_size]; exact Nat.le_refl _, fun k _ he => freeze_other _ _ _ _ (fun e => he (.inr (by rw [e]; rfl)))⟩, freeze_other _ _ _ _ hbg2⟩
    clear hcs htake hnc hcm hg hown h
    have mixed : Tryd.prog.follows .mixedOrders = true := by kernel_rfl
    go_enter Tryd.func31, Tryd.ntmps31
    go_wp2_with fail
    go_region_o
    all_goals (go_wp2; go_ret; exact ⟨rfl, hfin⟩)
set_option maxHeartbeats 1000000 in
theorem reset_mv (b : Nat) (p v : Value) (w : World) (h : w.heap[b]? = some (.cells #[p, v] 77 (0, 0))) :
    Calls Tryd.prog 51 #[.pointer (some ⟨b, 0, none⟩)] w fun e w' => (∃ r, e = .returned r) ∧ Bld b (.slice none 0 0) [] w' ∧ Mv (fun k => k = b) w w' := by
  have c0 : w.cell? ⟨b, 0, none⟩ = some p := by rw [Lib.cell_of_heap h]; rfl
  have c1 : w.cell? ⟨b, 1, none⟩ = some v := by rw [Lib.cell_of_heap h]; rfl
  have f0 : w.frozen? ⟨b, 0, none⟩ = false := Lib.frozen_of_heap h 0
  have f1 : w.frozen? ⟨b, 1, none⟩ = false := Lib.frozen_of_heap h 1
  have h1 : ((w.setCell ⟨b, 0, none⟩ (.pointer none)).setCell ⟨b, 1, none⟩ (.slice none 0 0)).heap[b]? = some (.cells #[.pointer none, .slice none 0 0] 77 (0, 0)) := by simp [World.setCell, Array.getElem?_modify, h]
  go_enter Tryd.func51, Tryd.ntmps51
  go_wp2_with fail
  go_end0
  exact ⟨⟨_, rfl⟩, ⟨⟨_, .inl rfl, h1⟩, World.ownsRow_nil _ _ _ _, by simp [Value.ownBlock], fun _ => rfl⟩, ((Mv.refl (fun k => k = b) w).setc (p := ⟨b, 0, none⟩) (.inl rfl) _).setc (p := ⟨b, 1, none⟩) (.inl rfl) _⟩
end Go.Proofs.YtiinhfbfciccnaaDoor
/- Plain mathematics: bounds of whole lines. -/
namespace Go.Proofs.YtiinhfbfciccnaaDoor.Lin
/-- How many bytes are left, line feeds with them. -/
def tot : List L → Nat
  | [] => 0
  | p :: r => p.length + 1 + tot r
theorem tot_len : ∀ l : List L, l.length ≤ tot l
  | [] => Nat.le_refl _
  | p :: r => by have := tot_len r; simp only [tot, List.length_cons]; omega
theorem pieces_ne (l : L) : pieces l ≠ [] := by
  cases l with
  | nil => simp [pieces]
  | cons c r =>
    unfold pieces
    split
    · simp
    · split <;> simp
theorem tot_pieces : ∀ l : L, tot (pieces l) = l.length + 1
  | [] => rfl
  | c :: r => by
    have ih := tot_pieces r
    unfold pieces
    split
    · simp only [tot, List.length_nil, List.length_cons, ih]; omega
    · split
      · rename_i p q h
        rw [h] at ih
        simp only [tot, List.length_cons] at ih ⊢
        omega
      · rename_i h
        exact absurd h (pieces_ne r)
theorem whl_out (n : Nat) (x p : L) (r : List L) (h : lout p = true) : whl n 0 x (p :: r) = whl (n + 1) 0 x r := by
  simp [whl, h]
theorem whl_on0 (n : Nat) (x p : L) (r : List L) (h : lout p = false) (h2 : Lib.hasSuffix p [92] = true) : whl n 0 x (p :: r) = whl (n + 1) (n + 1) (x ++ Lib.trimSuffix p [92] ++ [32]) r := by
  simp [whl, h, h2]
theorem whl_on (n b : Nat) (x p : L) (r : List L) (h : b ≠ 0) (h2 : Lib.hasSuffix p [92] = true) : whl n b x (p :: r) = whl (n + 1) b (x ++ Lib.trimSuffix p [92] ++ [32]) r := by
  simp [whl, h, h2]
theorem whl_end0 (n : Nat) (x p : L) (r : List L) (h : lout p = false) (h2 : Lib.hasSuffix p [92] = false) : whl n 0 x (p :: r) = (n + 1, x ++ p) :: whl (n + 1) 0 [] r := by
  simp [whl, h, h2]
theorem whl_end (n b : Nat) (x p : L) (r : List L) (h : b ≠ 0) (h2 : Lib.hasSuffix p [92] = false) : whl n b x (p :: r) = (b, x ++ p) :: whl (n + 1) 0 [] r := by
  simp [whl, h, h2]
theorem trimS_no {p : L} (h : Lib.hasSuffix p [92] = false) : Lib.trimSuffix p [92] = p := by unfold Lib.trimSuffix; rw [h]; rfl
theorem trimS_len {p : L} (h : Lib.hasSuffix p [92] = true) : (Lib.trimSuffix p [92]).length + 1 = p.length := by
  unfold Lib.trimSuffix
  rw [if_pos h, List.length_take]
  have : 1 ≤ p.length := by
    cases p with
    | nil => simp [Lib.hasSuffix] at h
    | cons c r => simp
  simp; omega
end Go.Proofs.YtiinhfbfciccnaaDoor.Lin
/- The row of package line's whole lines. -/
namespace Go.Proofs.YtiinhfbfciccnaaDoor
open Go.RowKit Go.Shelf Lin
attribute [local go_sem] Oper.semAt_some
set_option maxHeartbeats 1000000 in
theorem splitSeq0_any (s t : ByteArray) (w : World) :
    Calls Tryd.prog 63 #[.string s, .string t, .int .i64 0] w fun e w' => e = .returned (.func (.func 75) #[] #[.pointer (some ⟨w.heap.size + 1, 0, none⟩), .pointer (some ⟨w.heap.size, 0, none⟩), .pointer (some ⟨w.heap.size + 2, 0, none⟩)]) ∧ w' = ((w.alloc (.cells #[.string s] 9)).alloc (.cells #[.string t] 9)).alloc (.cells #[.int .i64 0] 3) := by
  go_enter Tryd.func63, Tryd.ntmps63
  go_wp2_with fail
  go_ret
  exact ⟨rfl, rfl⟩
set_option maxHeartbeats 1000000 in
theorem splitSeq_any (s t : ByteArray) (w : World) :
    Calls Tryd.prog 47 #[.string s, .string t] w fun e w' => e = .returned (.func (.func 75) #[] #[.pointer (some ⟨w.heap.size + 1, 0, none⟩), .pointer (some ⟨w.heap.size, 0, none⟩), .pointer (some ⟨w.heap.size + 2, 0, none⟩)]) ∧ w' = ((w.alloc (.cells #[.string s] 9)).alloc (.cells #[.string t] 9)).alloc (.cells #[.int .i64 0] 3) := by
  go_enter Tryd.func47, Tryd.ntmps47
  go_wp2_with fail
  refine (splitSeq0_any s t w).mono ?_
  rintro e w1 ⟨rfl, rfl⟩
  go_wp2_with fail
  go_ret
  exact ⟨rfl, rfl⟩
def encW (p : Nat × L) : Array Value := #[.int .i64 p.1, .string ⟨p.2.toArray⟩]
/-- A variable of one number. -/
structure Nm (i : Nat) (n : Nat) (W : World) : Prop where
  c : W.cell? ⟨i, 0, none⟩ = some (.int .i64 n)
  f : W.frozen? ⟨i, 0, none⟩ = false
theorem Nm.lt {i n : Nat} {W : World} (h : Nm i n W) : i < W.heap.size := cell_lt h.c
theorem Nm.mv {i n : Nat} {E : Nat → Prop} {W V : World} (h : Nm i n W) (m : Mv E W V) (hE : ¬ E i) : Nm i n V :=
  ⟨m.cell hE h.c, (m.froz (a := ⟨i, 0, none⟩) hE h.lt).trans h.f⟩
theorem Nm.set {i n : Nat} {W : World} (h : Nm i n W) (k : Nat) : Nm i k (W.setCell ⟨i, 0, none⟩ (.int .i64 k)) :=
  ⟨World.cell?_setCell_same' _ _ _ (by rw [h.c]; rfl), by rw [World.frozen?_setCell]; exact h.f⟩
/-- What the row of whole lines keeps for itself. -/
def OT (bb nb gb : Nat) (v : Value) (k : Nat) : Prop := Ow bb v k ∨ k = nb ∨ k = gb
structure Own3 (B bb nb gb : Nat) (v : Value) (n b : Nat) (x : L) (E0 : Nat → Prop) (W : World) : Prop where
  bld : Bld bb v x W
  nm : Nm nb n W
  gm : Nm gb b W
  ng : nb ≠ gb
  on : ¬ Ow bb v nb
  og : ¬ Ow bb v gb
  dis : ∀ k, E0 k → ¬ OT bb nb gb v k
  low : ∀ k, OT bb nb gb v k → B ≤ k
theorem Own3.lo {B bb nb gb : Nat} {v : Value} {n b : Nat} {x : L} {E0 : Nat → Prop} {W : World} (h : Own3 B bb nb gb v n b x E0 W) (k : Nat) (hk : OT bb nb gb v k) : k < W.heap.size := by
  rcases hk with hk | rfl | rfl
  · exact h.bld.lo k hk
  · exact h.nm.lt
  · exact h.gm.lt
theorem Own3.mv {B bb nb gb : Nat} {v : Value} {n b : Nat} {x : L} {E0 E : Nat → Prop} {W V : World} (h : Own3 B bb nb gb v n b x E0 W) (m : Mv E W V) (hE : ∀ k, OT bb nb gb v k → ¬ E k) : Own3 B bb nb gb v n b x E0 V :=
  ⟨h.bld.mv m (fun k hk => hE k (.inl hk)), h.nm.mv m (hE nb (.inr (.inl rfl))), h.gm.mv m (hE gb (.inr (.inr rfl))), h.ng, h.on, h.og, h.dis, h.low⟩
theorem Own3.terr {B bb nb gb : Nat} {v : Value} {n b : Nat} {x : L} {E0 E1 : Nat → Prop} {W : World} (h : Own3 B bb nb gb v n b x E0 W) (hd : ∀ k, E1 k → ¬ OT bb nb gb v k) : Own3 B bb nb gb v n b x E1 W :=
  ⟨h.bld, h.nm, h.gm, h.ng, h.on, h.og, hd, h.low⟩
/-- The number is set. -/
theorem Own3.setN {B bb nb gb : Nat} {v : Value} {n b : Nat} {x : L} {E0 : Nat → Prop} {W : World} (h : Own3 B bb nb gb v n b x E0 W) (k : Nat) : Own3 B bb nb gb v k b x E0 (W.setCell ⟨nb, 0, none⟩ (.int .i64 k)) :=
  ⟨h.bld.mv (E := fun j => j = nb) (Mv.set1 (E := fun j => j = nb) rfl _) (fun _ hj e => h.on (e ▸ hj)), h.nm.set k, h.gm.mv (E := fun j => j = nb) (Mv.set1 (E := fun j => j = nb) rfl _) (fun e => h.ng e.symm), h.ng, h.on, h.og, h.dis, h.low⟩
theorem Own3.setG {B bb nb gb : Nat} {v : Value} {n b : Nat} {x : L} {E0 : Nat → Prop} {W : World} (h : Own3 B bb nb gb v n b x E0 W) (k : Nat) : Own3 B bb nb gb v n k x E0 (W.setCell ⟨gb, 0, none⟩ (.int .i64 k)) :=
  ⟨h.bld.mv (E := fun j => j = gb) (Mv.set1 (E := fun j => j = gb) rfl _) (fun _ hj e => h.og (e ▸ hj)), h.nm.mv (E := fun j => j = gb) (Mv.set1 (E := fun j => j = gb) rfl _) h.ng, h.gm.set k, h.ng, h.on, h.og, h.dis, h.low⟩
/-- A write to the builder. -/
theorem Own3.wrote {B bb nb gb : Nat} {v : Value} {n b : Nat} {x y : L} {E0 : Nat → Prop} {W V : World} (h : Own3 B bb nb gb v n b x E0 W) (hE : ∀ k, E0 k → k < W.heap.size) (hB : B ≤ W.heap.size) (hw : Wrote bb v y W V) :
    ∃ v', Own3 B bb nb gb v' n b y E0 V ∧ Mv (OT bb nb gb v) W V ∧ ∀ k, OT bb nb gb v' k → OT bb nb gb v k ∨ W.heap.size ≤ k := by
  obtain ⟨v', hb, m, hn⟩ := hw
  have ho : ∀ k, Ow bb v' k → Ow bb v k ∨ W.heap.size ≤ k := fun k hk => by
    rcases hk with rfl | hk
    · exact .inl (.inl rfl)
    · rcases hn k hk with q | q
      · exact .inl (.inr q)
      · exact .inr q
  have hot : ∀ k, OT bb nb gb v' k → OT bb nb gb v k ∨ W.heap.size ≤ k := fun k hk => by
    rcases hk with hk | hk
    · exact (ho k hk).imp .inl id
    · exact .inl (.inr hk)
  refine ⟨v', ⟨hb, h.nm.mv m h.on, h.gm.mv m h.og, h.ng, fun e => ?_, fun e => ?_, fun k hk e => ?_, fun k hk => ?_⟩, m.mono (fun k _ hk => .inl hk), hot⟩
  · rcases ho _ e with q | q
    · exact h.on q
    · have := h.nm.lt; omega
  · rcases ho _ e with q | q
    · exact h.og q
    · have := h.gm.lt; omega
  · rcases hot k e with q | q
    · exact h.dis k hk q
    · have := hE k hk; omega
  · rcases hot k hk with q | q
    · exact h.low k q
    · omega
/-- The invariant of the loop over the lines. -/
def WI (J : List (Nat × L) → (Nat → Prop) → World → Prop) (B bb nb gb : Nat) (rest : List L) (E : Nat → Prop) (W : World) : Prop :=
  ∃ (E0 : Nat → Prop) (v : Value) (n b : Nat) (x : L), ((∀ k, E k ↔ (E0 k ∨ OT bb nb gb v k)) ∧ n + rest.length ≤ 5000 ∧ x.length + tot rest ≤ 5000 ∧ b ≤ n) ∧ J (whl n b x rest) E0 W ∧ Own3 B bb nb gb v n b x E0 W
theorem WI.ter {J : List (Nat × L) → (Nat → Prop) → World → Prop} {B B' C bb nb gb : Nat} (hJ : Ter B' J) (hBC : B' ≤ C) : Ter C (WI J B bb nb gb) := by
  refine ⟨fun s E W V h m => ?_, fun s E W h k hk => ?_⟩
  · obtain ⟨E0, v, n, b, x, hp, hj, ho⟩ := h
    refine ⟨E0, v, n, b, x, hp, hJ.keep _ _ _ _ hj (m.mono (fun k _ hk => ⟨fun e => hk.1 ((hp.1 k).2 (.inl e)), by omega⟩)), ho.mv m (fun k hk e => e.1 ((hp.1 k).2 (.inr hk)))⟩
  · obtain ⟨E0, v, n, b, x, hp, hj, ho⟩ := h
    rcases (hp.1 k).1 hk with q | q
    · exact hJ.low _ _ _ hj k q
    · exact ho.lo k q
end Go.Proofs.YtiinhfbfciccnaaDoor
/- The row of package line's whole lines: how a round ends. -/
namespace Go.Proofs.YtiinhfbfciccnaaDoor
open Go.RowKit Go.Shelf Lin
theorem WI.on {J : List (Nat × L) → (Nat → Prop) → World → Prop} {B bb nb gb : Nat} {v v' : Value} {n b : Nat} {x : L} {E0 E2 : Nat → Prop} {U2 U : World} {rest : List L}
    (hE : ∀ k, E2 k ↔ (E0 k ∨ OT bb nb gb v k)) (mo : Mv (OT bb nb gb v) U2 U) (hot : ∀ k, OT bb nb gb v' k → OT bb nb gb v k ∨ U2.heap.size ≤ k) (o : Own3 B bb nb gb v' n b x E0 U) (hj : J (whl n b x rest) E0 U)
    (h1 : n + rest.length ≤ 5000) (h2 : x.length + tot rest ≤ 5000) (h3 : b ≤ n) : Mv E2 U2 U ∧ ∃ E', Gr E2 U2 E' ∧ WI J B bb nb gb rest E' U := by
  refine ⟨mo.mono (fun k _ hk => (hE k).2 (.inr hk)), fun k => E0 k ∨ OT bb nb gb v' k, fun k hk => ?_, E0, v', n, b, x, ⟨fun _ => Iff.rfl, h1, h2, h3⟩, hj, o⟩
  rcases hk with hk | hk
  · exact .inl ((hE k).2 (.inl hk))
  · rcases hot k hk with q | q
    · exact .inl ((hE k).2 (.inr q))
    · exact .inr q
/-- What lies when a line has been taken. -/
structure Taken (bb nb gb : Nat) (v6 : Value) (n d : Nat) (E2 E3 : Nat → Prop) (U2 U8 : World) : Prop where
  at0 : ∃ p, U8.heap[bb]? = some (.cells #[p, v6] 77 (0, 0))
  nm : Nm nb n U8
  gm : Nm gb d U8
  mv : Mv E2 U2 U8
  gr : Gr E2 U2 E3
  nE : ∀ k, (k = bb ∨ k = nb ∨ k = gb) → ¬ E3 k
  iE : ∀ k, (k = bb ∨ k = nb ∨ k = gb) → E2 k
theorem taken {B bb nb gb : Nat} {v v6 : Value} {n d : Nat} {x : L} {E0 E2 E3 : Nat → Prop} {U2 D6 U7 U8 : World} (hE : ∀ k, E2 k ↔ (E0 k ∨ OT bb nb gb v k)) (mo : Mv (OT bb nb gb v) U2 D6) (hot : ∀ k, OT bb nb gb v6 k → OT bb nb gb v k ∨ U2.heap.size ≤ k) (o : Own3 B bb nb gb v6 n d x E0 D6)
    (m7 : Mv (Ow bb v6) D6 U7) (hb7 : U7.heap[bb]? = D6.heap[bb]?) (m8 : Mv E0 U7 U8) (g3 : Gr E0 U7 E3) : Taken bb nb gb v6 n d E2 E3 U2 U8 := by
  have n7 := o.nm.mv m7 o.on
  have g7 := o.gm.mv m7 o.og
  obtain ⟨p, _, hp⟩ := o.bld.at0
  have hp7 := hb7.trans hp
  have nb0 : ¬ E0 bb := fun h => o.dis _ h (.inl (.inl rfl))
  have nn0 : ¬ E0 nb := fun h => o.dis _ h (.inr (.inl rfl))
  have ng0 : ¬ E0 gb := fun h => o.dis _ h (.inr (.inr rfl))
  have hlt := lt_of_heap hp7
  refine ⟨⟨p, (m8.block bb hlt nb0).trans hp7⟩, n7.mv m8 nn0, g7.mv m8 ng0, ?_, ?_, ?_, ?_⟩
  · have a1 : Mv E2 U2 D6 := mo.mono (fun k _ hk => (hE k).2 (.inr hk))
    have a2 : Mv E2 U2 U7 := a1.trans (E' := fun k => Ow bb v6 k) (fun k hk => by
      rcases hot k (.inl hk) with q | q
      · exact .inl ((hE k).2 (.inr q))
      · exact .inr q) m7
    exact a2.trans (E' := E0) (fun k hk => .inl ((hE k).2 (.inl hk))) m8
  · intro k hk
    rcases g3 k hk with q | q
    · exact .inl ((hE k).2 (.inl q))
    · exact .inr (Nat.le_trans (Nat.le_trans mo.size m7.size) q)
  · rintro k (rfl | rfl | rfl) hk
    · rcases g3 _ hk with q | q
      · exact nb0 q
      · omega
    · rcases g3 _ hk with q | q
      · exact nn0 q
      · have := n7.lt; omega
    · rcases g3 _ hk with q | q
      · exact ng0 q
      · have := g7.lt; omega
  · rintro k (rfl | rfl | rfl)
    · exact (hE _).2 (.inr (.inl (.inl rfl)))
    · exact (hE _).2 (.inr (.inr (.inl rfl)))
    · exact (hE _).2 (.inr (.inr (.inr rfl)))
theorem Taken.reset {bb nb gb : Nat} {v6 : Value} {n d : Nat} {E2 E3 : Nat → Prop} {U2 U8 U9 : World} (t : Taken bb nb gb v6 n d E2 E3 U2 U8) (hg : bb ≠ gb) (m9 : Mv (fun k => k = bb) U8 U9) : Nm gb d U9 := t.gm.mv m9 (fun e => hg e.symm)
theorem Taken.done {J : List (Nat × L) → (Nat → Prop) → World → Prop} {B B' bb nb gb : Nat} {v6 : Value} {n d : Nat} {E2 E3 : Nat → Prop} {U2 U8 U9 : World} {rest : List L} (t : Taken bb nb gb v6 n d E2 E3 U2 U8) (hJ : Ter B' J) (hB' : B' ≤ B) (hbn : bb ≠ nb) (hbg : bb ≠ gb) (hng : nb ≠ gb) (hB : B ≤ bb ∧ B ≤ nb ∧ B ≤ gb)
    (hbl : Bld bb (.slice none 0 0) [] U9) (m9 : Mv (fun k => k = bb) U8 U9) (hj : J (whl n 0 [] rest) E3 U8) (h1 : n + rest.length ≤ 5000) (h2 : tot rest ≤ 5000) :
    Mv E2 U2 (U9.setCell ⟨gb, 0, none⟩ (.int .i64 0)) ∧ ∃ E', Gr E2 U2 E' ∧ WI J B bb nb gb rest E' (U9.setCell ⟨gb, 0, none⟩ (.int .i64 0)) := by
  have oo : ∀ k, OT bb nb gb (.slice none 0 0) k → (k = bb ∨ k = nb ∨ k = gb) := by
    rintro k ((q | q) | q)
    · exact .inl q
    · simp [Value.ownBlock] at q
    · exact .inr q
  have ms : Mv (fun k => k = bb ∨ k = gb) U8 (U9.setCell ⟨gb, 0, none⟩ (.int .i64 0)) := (m9.mono (fun k _ e => .inl e)).trans' (Mv.set1 (.inr rfl) _)
  have hj2 := hJ.keep _ _ _ _ hj (ms.mono (fun k _ e => by
    rcases e with rfl | rfl
    · exact ⟨t.nE _ (.inl rfl), by omega⟩
    · exact ⟨t.nE _ (.inr (.inr rfl)), by omega⟩))
  have g9 := (t.reset hbg m9).set 0
  refine ⟨t.mv.trans (E' := fun k => k = bb ∨ k = gb) (fun k hk => .inl (t.iE k (hk.imp id .inr))) ms, fun k => E3 k ∨ OT bb nb gb (.slice none 0 0) k, fun k hk => ?_, E3, _, n, 0, [], ⟨fun _ => Iff.rfl, h1, by simpa using h2, Nat.zero_le _⟩, hj2, ?_⟩
  · rcases hk with hk | hk
    · exact t.gr k hk
    · exact .inl (t.iE k (oo k hk))
  · refine ⟨hbl.mv (E := fun k => k = gb) (Mv.set1 (E := fun k => k = gb) rfl _) (fun k hk e => ?_), (t.nm.mv m9 (fun e => hbn e.symm)).mv (E := fun k => k = gb) (Mv.set1 (E := fun k => k = gb) rfl _) hng, g9, hng, ?_, ?_, fun k hk h => t.nE k (oo k h) hk, fun k hk => ?_⟩
    · rcases hk with q | q
      · exact hbg (q.symm.trans e)
      · simp [Value.ownBlock] at q
    · rintro (q | q)
      · exact hbn q.symm
      · simp [Value.ownBlock] at q
    · rintro (q | q)
      · exact hbg q.symm
      · simp [Value.ownBlock] at q
    · rcases oo k hk with rfl | rfl | rfl
      · exact hB.1
      · exact hB.2.1
      · exact hB.2.2
end Go.Proofs.YtiinhfbfciccnaaDoor
