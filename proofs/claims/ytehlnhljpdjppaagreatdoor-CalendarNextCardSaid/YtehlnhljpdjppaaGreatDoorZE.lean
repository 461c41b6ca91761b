import Derived.Test.YtehlnhljpdjppaaGreatDoorZD
import Derived.Deep.RegionHeld3
import Derived.Deep.QuietTactic
/- Three lists of an expression, told one after the other: the worlds between. -/
namespace Go.Proofs.YtehlnhljpdjppaaGreatDoor
open Go.RowKit
theorem pn2 (s : ByteArray) (lo hi : Int) (b o : Nat) (W w : World) (h : W = w ∨ W = w.drew) (hg : GlP w) (hs : s.size ≤ 100000) (hc : ∃ u, w.cell? ⟨b, o, none⟩ = some u) (hf : w.frozen? ⟨b, o, none⟩ = false) :
    Calls Tryz.prog 76 #[.pointer (some ⟨b, o, none⟩), .string s, .agg #[.int .i64 lo, .int .i64 hi]] W fun e w' => e = .returned (.bool (pNs s lo hi).isSome) ∧ ∃ sl : Sl, Upd b o (slv sl) w w' ∧ Pin (fun k => k < w.heap.size) w' (slv sl) ((pNs s lo hi).getD []) := by
  obtain ⟨u, hc⟩ := hc
  rcases h with rfl | rfl
  · exact parseNumbers_any s lo hi b o u W hg hs hc hf
  · refine (parseNumbers_any s lo hi b o u w.drew (hg.below (Below.refl _ _).drew) hs hc hf).mono ?_
    rintro e w' ⟨he, sl, hu, hp⟩
    exact ⟨he, sl, ⟨hu.os, hu.tape, hu.output, hu.size, hu.block, hu.cell, hu.froz, hu.here⟩, hp⟩
/-- Three lists of an expression in block b, from cell o on: those that are told by c lie there; else nothing has turned. -/
structure St (W0 : World) (b o : Nat) (c1 c2 c3 : Option (List Part)) (W : World) : Prop where
  os : W.os = W0.os
  tape : W.tape = W0.tape
  output : W.output = W0.output
  size : W0.heap.size ≤ W.heap.size
  lt : b < W0.heap.size
  block : ∀ k, k < W0.heap.size → k ≠ b → W.heap[k]? = W0.heap[k]?
  froz : ∀ j, W.frozen? ⟨b, j, none⟩ = W0.frozen? ⟨b, j, none⟩
  rest : ∀ j, j ≠ o → j ≠ o + 1 → j ≠ o + 2 → W.cell? ⟨b, j, none⟩ = W0.cell? ⟨b, j, none⟩
  there : ∀ j, (W0.cell? ⟨b, j, none⟩).isSome = true → (W.cell? ⟨b, j, none⟩).isSome = true
  p1 : ∀ ps, c1 = some ps → ∃ sl : Sl, W.cell? ⟨b, o, none⟩ = some (slv sl) ∧ Pin (fun k => k = b) W (slv sl) ps
  p2 : ∀ ps, c2 = some ps → ∃ sl : Sl, W.cell? ⟨b, o + 1, none⟩ = some (slv sl) ∧ Pin (fun k => k = b) W (slv sl) ps
  p3 : ∀ ps, c3 = some ps → ∃ sl : Sl, W.cell? ⟨b, o + 2, none⟩ = some (slv sl) ∧ Pin (fun k => k = b) W (slv sl) ps
theorem pin_weak {E E' : Nat → Prop} {W : World} {v : Value} {ps : List Part} (h : Pin E W v ps) (he : ∀ k, E' k → E k) : Pin E' W v ps := by
  obtain ⟨p, cap, rfl, hl, hc⟩ := h
  refine ⟨p, cap, rfl, hl, fun i q hq => ?_⟩
  obtain ⟨b', o', e, hE, r⟩ := hc i q hq
  exact ⟨b', o', e, fun h => hE (he _ h), r⟩
theorem Upd.there {b o : Nat} {v : Value} {w w' : World} (h : Upd b o v w w') (j : Nat) (hj : (w.cell? ⟨b, j, none⟩).isSome = true) : (w'.cell? ⟨b, j, none⟩).isSome = true := by
  by_cases e : j = o
  · subst e; rw [h.here]; rfl
  · rw [h.cell j e]; exact hj
theorem St.start {w w1 : World} {b : Nat} (o : Nat) (hb : Below w.heap.size w w1) (hl : b < w.heap.size) : St w b o none none none w1 :=
  ⟨hb.os, hb.tape, hb.output, hb.size, hl, fun k hk _ => hb.block k hk, fun j => hb.frozen (p := ⟨b, j, none⟩) hl, fun j _ _ _ => hb.cell (p := ⟨b, j, none⟩) hl, fun j h => by rw [hb.cell (p := ⟨b, j, none⟩) hl]; exact h, fun _ h => (by cases h), fun _ h => (by cases h), fun _ h => (by cases h)⟩
theorem St.n1 {W0 W W' : World} {b o : Nat} {c1 c2 c3 : Option (List Part)} {sl : Sl} {ps : List Part} (h : St W0 b o c1 c2 c3 W) (hu : Upd b o (slv sl) W W') (hp : Pin (fun k => k < W.heap.size) W' (slv sl) ps) : St W0 b o (some ps) c2 c3 W' := by
  have hbl : b < W.heap.size := Nat.lt_of_lt_of_le h.lt h.size
  refine ⟨hu.os.trans h.os, hu.tape.trans h.tape, hu.output.trans h.output, Nat.le_trans h.size hu.size, h.lt, fun k hk hne => (hu.block k (Nat.lt_of_lt_of_le hk h.size) hne).trans (h.block k hk hne), fun j => (hu.froz j).trans (h.froz j), fun j a c d => (hu.cell j a).trans (h.rest j a c d), fun j hj => hu.there j (h.there j hj), fun qs e => ?_, fun qs e => ?_, fun qs e => ?_⟩
  · cases e; exact ⟨sl, hu.here, pin_weak hp (fun k e => by subst e; exact hbl)⟩
  · obtain ⟨s2, a, c⟩ := h.p2 qs e; exact ⟨s2, (hu.cell _ (by omega)).trans a, hu.pin c rfl⟩
  · obtain ⟨s2, a, c⟩ := h.p3 qs e; exact ⟨s2, (hu.cell _ (by omega)).trans a, hu.pin c rfl⟩
theorem St.n2 {W0 W W' : World} {b o : Nat} {c1 c2 c3 : Option (List Part)} {sl : Sl} {ps : List Part} (h : St W0 b o c1 c2 c3 W) (hu : Upd b (o + 1) (slv sl) W W') (hp : Pin (fun k => k < W.heap.size) W' (slv sl) ps) : St W0 b o c1 (some ps) c3 W' := by
  have hbl : b < W.heap.size := Nat.lt_of_lt_of_le h.lt h.size
  refine ⟨hu.os.trans h.os, hu.tape.trans h.tape, hu.output.trans h.output, Nat.le_trans h.size hu.size, h.lt, fun k hk hne => (hu.block k (Nat.lt_of_lt_of_le hk h.size) hne).trans (h.block k hk hne), fun j => (hu.froz j).trans (h.froz j), fun j a c d => (hu.cell j c).trans (h.rest j a c d), fun j hj => hu.there j (h.there j hj), fun qs e => ?_, fun qs e => ?_, fun qs e => ?_⟩
  · obtain ⟨s2, a, c⟩ := h.p1 qs e; exact ⟨s2, (hu.cell _ (by omega)).trans a, hu.pin c rfl⟩
  · cases e; exact ⟨sl, hu.here, pin_weak hp (fun k e => by subst e; exact hbl)⟩
  · obtain ⟨s2, a, c⟩ := h.p3 qs e; exact ⟨s2, (hu.cell _ (by omega)).trans a, hu.pin c rfl⟩
theorem St.n3 {W0 W W' : World} {b o : Nat} {c1 c2 c3 : Option (List Part)} {sl : Sl} {ps : List Part} (h : St W0 b o c1 c2 c3 W) (hu : Upd b (o + 2) (slv sl) W W') (hp : Pin (fun k => k < W.heap.size) W' (slv sl) ps) : St W0 b o c1 c2 (some ps) W' := by
  have hbl : b < W.heap.size := Nat.lt_of_lt_of_le h.lt h.size
  refine ⟨hu.os.trans h.os, hu.tape.trans h.tape, hu.output.trans h.output, Nat.le_trans h.size hu.size, h.lt, fun k hk hne => (hu.block k (Nat.lt_of_lt_of_le hk h.size) hne).trans (h.block k hk hne), fun j => (hu.froz j).trans (h.froz j), fun j a c d => (hu.cell j d).trans (h.rest j a c d), fun j hj => hu.there j (h.there j hj), fun qs e => ?_, fun qs e => ?_, fun qs e => ?_⟩
  · obtain ⟨s2, a, c⟩ := h.p1 qs e; exact ⟨s2, (hu.cell _ (by omega)).trans a, hu.pin c rfl⟩
  · obtain ⟨s2, a, c⟩ := h.p2 qs e; exact ⟨s2, (hu.cell _ (by omega)).trans a, hu.pin c rfl⟩
  · cases e; exact ⟨sl, hu.here, pin_weak hp (fun k e => by subst e; exact hbl)⟩
theorem St.drew {W0 W : World} {b o : Nat} {c1 c2 c3 : Option (List Part)} (h : St W0 b o c1 c2 c3 W) : St W0 b o c1 c2 c3 W.drew :=
  ⟨h.os, h.tape, h.output, h.size, h.lt, h.block, h.froz, h.rest, h.there, h.p1, h.p2, h.p3⟩
theorem none_of {x : Option (List Part)} (h : x.isSome = false) : x = none := by cases x with | none => rfl | some a => cases h
theorem some_of {x : Option (List Part)} (h : x.isSome = true) : x = some (x.getD []) := by cases x with | none => cases h | some a => rfl
def p3L (l : List ByteArray) (a b c d e f : Int) : Option (List Part × List Part × List Part) :=
  match l with
  | [x, y, z] => (pNs x a b).bind fun r => (pNs y c d).bind fun q => (pNs z e f).map fun p => (r, q, p)
  | _ => none
def pD (s : ByteArray) : Option (List Part × List Part × List Part) := p3L (splitT s (str1 45) 3) 1970 2200 1 12 1 31
/-- What is asked of the block in which the expression is told. -/
structure Cb (w : World) (b : Nat) : Prop where
  hb : 2 < b
  hc : ∀ j, j < 7 → ∃ u, w.cell? ⟨b, j, none⟩ = some u
  hf : ∀ j, w.frozen? ⟨b, j, none⟩ = false
/-- What is told of the lists behind it. -/
def Told (r : Option (List Part × List Part × List Part)) (b o : Nat) (w w' : World) : Prop := ∃ c1 c2 c3, St w b o c1 c2 c3 w' ∧ ∀ x y z, r = some (x, y, z) → c1 = some x ∧ c2 = some y ∧ c3 = some z
/-- The worlds among which the statement's steps go. -/
structure QC (w : World) (b : Nat) (t0 t1 t2 : ByteArray) (w' : World) : Prop where
  q0 : w'.cell? ⟨w.heap.size, 0, none⟩ = some (.string t0)
  q1 : w'.cell? ⟨w.heap.size, 1, none⟩ = some (.string t1)
  q2 : w'.cell? ⟨w.heap.size, 2, none⟩ = some (.string t2)
  gl : GlP w'
  m1 : ∃ u, w'.cell? ⟨b, 1, none⟩ = some u
  m2 : ∃ u, w'.cell? ⟨b, 2, none⟩ = some u
  m3 : ∃ u, w'.cell? ⟨b, 3, none⟩ = some u
  n1 : w'.frozen? ⟨b, 1, none⟩ = false
  n2 : w'.frozen? ⟨b, 2, none⟩ = false
  n3 : w'.frozen? ⟨b, 3, none⟩ = false
  st : ∃ c1 c2 c3, St w b 1 c1 c2 c3 w'
theorem Upd.ex {b o : Nat} {v : Value} {w w' : World} (h : Upd b o v w w') (j : Nat) (hj : j ≠ o) (hu : ∃ u, w.cell? ⟨b, j, none⟩ = some u) : ∃ u, w'.cell? ⟨b, j, none⟩ = some u := by
  obtain ⟨u, hu⟩ := hu
  exact ⟨u, (h.cell j hj).trans hu⟩
theorem qc1 {w w' : World} {b : Nat} {t0 t1 t2 : ByteArray} (hb2 : 2 < b) (hne : w.heap.size ≠ b) (t : ByteArray) (lo hi : Int) (r : Bool) (hr : (pNs t lo hi).isSome = r) (hz : t.size ≤ 100000) (hq : QC w b t0 t1 t2 w') :
    Calls Tryz.prog 76 #[.pointer (some ⟨b, 1, none⟩), .string t, .agg #[.int .i64 lo, .int .i64 hi]] w' fun e w'' => e = .returned (.bool r) ∧ QC w b t0 t1 t2 w'' := by
  refine (pn2 t lo hi b 1 w' w' (.inl rfl) hq.gl hz hq.m1 hq.n1).mono ?_
  rintro e w2 ⟨he, sl, hu, hp⟩
  rw [hr] at he
  obtain ⟨c1, c2, c3, hC⟩ := hq.st
  exact ⟨he, hu.old hne hq.q0, hu.old hne hq.q1, hu.old hne hq.q2, hu.glp hq.gl hb2, ⟨_, hu.here⟩, hu.ex 2 (by decide) hq.m2, hu.ex 3 (by decide) hq.m3, (hu.froz 1).trans hq.n1, (hu.froz 2).trans hq.n2, (hu.froz 3).trans hq.n3, ⟨_, _, _, St.n1 hC hu hp⟩⟩
theorem qc2 {w w' : World} {b : Nat} {t0 t1 t2 : ByteArray} (hb2 : 2 < b) (hne : w.heap.size ≠ b) (t : ByteArray) (lo hi : Int) (r : Bool) (hr : (pNs t lo hi).isSome = r) (hz : t.size ≤ 100000) (hq : QC w b t0 t1 t2 w') :
    Calls Tryz.prog 76 #[.pointer (some ⟨b, 2, none⟩), .string t, .agg #[.int .i64 lo, .int .i64 hi]] w' fun e w'' => e = .returned (.bool r) ∧ QC w b t0 t1 t2 w'' := by
  refine (pn2 t lo hi b 2 w' w' (.inl rfl) hq.gl hz hq.m2 hq.n2).mono ?_
  rintro e w2 ⟨he, sl, hu, hp⟩
  rw [hr] at he
  obtain ⟨c1, c2, c3, hC⟩ := hq.st
  exact ⟨he, hu.old hne hq.q0, hu.old hne hq.q1, hu.old hne hq.q2, hu.glp hq.gl hb2, hu.ex 1 (by decide) hq.m1, ⟨_, hu.here⟩, hu.ex 3 (by decide) hq.m3, (hu.froz 1).trans hq.n1, (hu.froz 2).trans hq.n2, (hu.froz 3).trans hq.n3, ⟨_, _, _, St.n2 hC hu hp⟩⟩
theorem qc3 {w w' : World} {b : Nat} {t0 t1 t2 : ByteArray} (hb2 : 2 < b) (hne : w.heap.size ≠ b) (t : ByteArray) (lo hi : Int) (r : Bool) (hr : (pNs t lo hi).isSome = r) (hz : t.size ≤ 100000) (hq : QC w b t0 t1 t2 w') :
    Calls Tryz.prog 76 #[.pointer (some ⟨b, 3, none⟩), .string t, .agg #[.int .i64 lo, .int .i64 hi]] w' fun e w'' => e = .returned (.bool r) ∧ QC w b t0 t1 t2 w'' := by
  refine (pn2 t lo hi b 3 w' w' (.inl rfl) hq.gl hz hq.m3 hq.n3).mono ?_
  rintro e w2 ⟨he, sl, hu, hp⟩
  rw [hr] at he
  obtain ⟨c1, c2, c3, hC⟩ := hq.st
  exact ⟨he, hu.old hne hq.q0, hu.old hne hq.q1, hu.old hne hq.q2, hu.glp hq.gl hb2, hu.ex 1 (by decide) hq.m1, hu.ex 2 (by decide) hq.m2, ⟨_, hu.here⟩, (hu.froz 1).trans hq.n1, (hu.froz 2).trans hq.n2, (hu.froz 3).trans hq.n3, ⟨_, _, _, St.n3 hC hu hp⟩⟩
end Go.Proofs.YtehlnhljpdjppaaGreatDoor
/- The lexical walk of a region under names that nothing lays open by itself. -/
namespace Go.Proofs.YtehlnhljpdjppaaGreatDoor
@[irreducible] def WQ (P : Program) (ops : Array Oper) (C : World → Prop) (Q : Act → Prop) (l : List Oper) (a : Act) : Prop := wpQuiet P ops C Q l a
@[irreducible] def SQ (P : Program) (ops : Array Oper) (C : World → Prop) (o : Oper) (a : Act) (K : Act → Prop) : Prop :=
  if Region.wanted o (yielded ops a.tmps) then o.quiet P a C K else K (a.put o.dst undef)
theorem SQ_eq (P : Program) (ops : Array Oper) (C : World → Prop) (o : Oper) (a : Act) (K : Act → Prop) :
    SQ P ops C o a K = if Region.wanted o (yielded ops a.tmps) then o.quiet P a C K else K (a.put o.dst undef) := by unfold SQ; rfl
theorem WQ_step {P : Program} {ops : Array Oper} {C : World → Prop} {Q : Act → Prop} {a : Act} {o : Oper} {rest : List Oper} (h : ∀ K : Act → Prop, (∀ a, WQ P ops C Q rest a → K a) → SQ P ops C o a K) : WQ P ops C Q (o :: rest) a := by
  unfold WQ
  refine wpQuiet_step fun K hK => ?_
  have := h K (fun a ha => hK a (by unfold WQ at ha; exact ha))
  rw [SQ_eq] at this
  exact this
theorem WQ_nil {P : Program} {ops : Array Oper} {C : World → Prop} {Q : Act → Prop} {a : Act} (h : Q a) : WQ P ops C Q [] a := by unfold WQ; exact wpQuiet_nil h
theorem region_WQ {P : Program} {C : World → Prop} {id : Nat} {Q : Exit → Act → World → Prop} {a : Act} {w : World} {l : List Oper} (hm : P.follows .mixedOrders = true) (hB : Region.lexB .any l.toArray = true) (hC : C { w with drawn := w.drawn + 1 })
    (h : WQ P l.toArray C (fun a' => ∀ w', C w' → Q .normal a' w') l a) : (Code.region id l.toArray true).wp P Q a w := by
  unfold WQ at h
  exact wp_region_quiet hm hB hC (by simpa using h)
end Go.Proofs.YtehlnhljpdjppaaGreatDoor
/- The contract of package calendar's parseDate, where the first list is none. -/
namespace Go.Proofs.YtehlnhljpdjppaaGreatDoor
open Go.RowKit
set_option maxRecDepth 100000 in
set_option maxHeartbeats 1000000 in
theorem pdate1 (s t0 t1 t2 : ByteArray) (b : Nat) (w : World) (hg : GlP w) (hcb : Cb w b) (z0 : t0.size ≤ 100000)
    (hSp : Calls Tryz.prog 51 #[.string s, .string (str1 45), .int .i64 3] w fun e w' => ∃ cap, e = .returned (.slice (some ⟨w.heap.size, 0, none⟩) 3 cap) ∧ 3 ≤ cap ∧ Below w.heap.size w w' ∧ ∀ j x, [t0, t1, t2][j]? = some x → w'.cell? ⟨w.heap.size, j, none⟩ = some (.string x))
    (o1 : (pNs t0 1970 2200).isSome = false) :
    Calls Tryz.prog 55 #[.pointer (some ⟨b, 0, none⟩), .string s] w fun e w' => e = .returned (.bool false) ∧ ∃ c1 c2 c3, St w b 1 c1 c2 c3 w' := by
  have o1' : Hid ((pNs t0 1970 2200).isSome = false) := o1
  clear o1
  obtain ⟨hb2, hcs, hfs⟩ := hcb
  obtain ⟨u1, k1⟩ := hcs 1 (by omega)
  obtain ⟨u2, k2⟩ := hcs 2 (by omega)
  obtain ⟨u3, k3⟩ := hcs 3 (by omega)
  have bl : b < w.heap.size := cell_lt k1
  go_enter Tryz.func55, Tryz.ntmps55
  go_wp2_with fail
  refine hSp.mono ?_
  rintro e w1 ⟨cap, rfl, hcap, hbb, hcells⟩
  have hg1 := hg.below hbb
  have q0 := hcells 0 t0 rfl
  have q1 := hcells 1 t1 rfl
  have q2 := hcells 2 t2 rfl
  have m1 := (hbb.cell (p := ⟨b, 1, none⟩) bl).trans k1
  have m2 := (hbb.cell (p := ⟨b, 2, none⟩) bl).trans k2
  have m3 := (hbb.cell (p := ⟨b, 3, none⟩) bl).trans k3
  have n1 := (hbb.frozen (p := ⟨b, 1, none⟩) bl).trans (hfs 1)
  have n2 := (hbb.frozen (p := ⟨b, 2, none⟩) bl).trans (hfs 2)
  have n3 := (hbb.frozen (p := ⟨b, 3, none⟩) bl).trans (hfs 3)
  have hne : w.heap.size ≠ b := by omega
  have hC := St.start 1 hbb bl
  clear hcells hSp hcap hg k1 k2 k3 bl hbb hcs hfs
  go_wp2_with fail
  have hC0 : QC w b t0 t1 t2 w1.drew := ⟨q0, q1, q2, hg1.below (Below.refl _ _).drew, ⟨_, m1⟩, ⟨_, m2⟩, ⟨_, m3⟩, n1, n2, n3, ⟨none, none, none, hC.drew⟩⟩
  clear q0 q1 q2 m1 m2 m3 n1 n2 n3 hg1 hC
  have hconst : ∀ p : Prop, (∀ w', QC w b t0 t1 t2 w' → p) = p := fun p => propext ⟨fun h => h _ hC0, fun h _ _ => h⟩
  have hC0' : Hid _ := hC0
  clear hC0
  refine region_WQ (C := QC w b t0 t1 t2) (by kernel_rfl) (by kernel_rfl) hC0'.out ?_
  iterate 5 (refine WQ_step (fun K hK => ?_); simp only [SQ_eq]; go_simp; refine hK _ ?_; clear hK K)
  refine WQ_step (fun K hK => ?_)
  simp only [SQ_eq]
  go_simp
  refine Exists.intro (Value.string t0) (And.intro (fun w' hw => (by have h := hw.q0; simp [h])) ?_)
  go_simp
  refine hK _ ?_
  clear hK K
  iterate 1 (refine WQ_step (fun K hK => ?_); simp only [SQ_eq]; go_simp; refine hK _ ?_; clear hK K)
  refine WQ_step (fun K hK => ?_)
  simp only [SQ_eq]
  go_simp
  refine Exists.intro (Value.agg #[.int .i64 1970, .int .i64 2200]) (And.intro (fun w' hw => (by have h := hw.gl.gl.lim 0 1970 rfl; have h2 := hw.gl.gl.lim 1 2200 rfl; simp [h, h2])) ?_)
  go_simp
  refine hK _ ?_
  clear hK K
  refine WQ_step (fun K hK => ?_)
  simp only [SQ_eq]
  go_simp
  refine Exists.intro (Value.bool false) (And.intro (fun w' hw => qc1 hb2 hne t0 1970 2200 false o1'.out z0 hw) ?_)
  go_simp
  refine hK _ ?_
  clear hK K
  iterate 23 (refine WQ_step (fun K hK => ?_); simp only [SQ_eq]; go_simp; refine hK _ ?_; clear hK K)
  refine WQ_nil ?_
  intro w' hw
  obtain ⟨c1, c2, c3, hC'⟩ := hw.st
  go_wp2_with fail
  go_ret
  exact ⟨rfl, c1, c2, c3, hC'⟩
end Go.Proofs.YtehlnhljpdjppaaGreatDoor
/- The contract of package calendar's parseDate, where the second list is none. -/
namespace Go.Proofs.YtehlnhljpdjppaaGreatDoor
open Go.RowKit
set_option maxRecDepth 100000 in
set_option maxHeartbeats 1000000 in
theorem pdate2 (s t0 t1 t2 : ByteArray) (b : Nat) (w : World) (hg : GlP w) (hcb : Cb w b) (z0 : t0.size ≤ 100000) (z1 : t1.size ≤ 100000)
    (hSp : Calls Tryz.prog 51 #[.string s, .string (str1 45), .int .i64 3] w fun e w' => ∃ cap, e = .returned (.slice (some ⟨w.heap.size, 0, none⟩) 3 cap) ∧ 3 ≤ cap ∧ Below w.heap.size w w' ∧ ∀ j x, [t0, t1, t2][j]? = some x → w'.cell? ⟨w.heap.size, j, none⟩ = some (.string x))
    (o1 : (pNs t0 1970 2200).isSome = true) (o2 : (pNs t1 1 12).isSome = false) :
    Calls Tryz.prog 55 #[.pointer (some ⟨b, 0, none⟩), .string s] w fun e w' => e = .returned (.bool false) ∧ ∃ c1 c2 c3, St w b 1 c1 c2 c3 w' := by
  have o1' : Hid ((pNs t0 1970 2200).isSome = true) := o1
  have o2' : Hid ((pNs t1 1 12).isSome = false) := o2
  clear o1 o2
  obtain ⟨hb2, hcs, hfs⟩ := hcb
  obtain ⟨u1, k1⟩ := hcs 1 (by omega)
  obtain ⟨u2, k2⟩ := hcs 2 (by omega)
  obtain ⟨u3, k3⟩ := hcs 3 (by omega)
  have bl : b < w.heap.size := cell_lt k1
  go_enter Tryz.func55, Tryz.ntmps55
  go_wp2_with fail
  refine hSp.mono ?_
  rintro e w1 ⟨cap, rfl, hcap, hbb, hcells⟩
  have hg1 := hg.below hbb
  have q0 := hcells 0 t0 rfl
  have q1 := hcells 1 t1 rfl
  have q2 := hcells 2 t2 rfl
  have m1 := (hbb.cell (p := ⟨b, 1, none⟩) bl).trans k1
  have m2 := (hbb.cell (p := ⟨b, 2, none⟩) bl).trans k2
  have m3 := (hbb.cell (p := ⟨b, 3, none⟩) bl).trans k3
  have n1 := (hbb.frozen (p := ⟨b, 1, none⟩) bl).trans (hfs 1)
  have n2 := (hbb.frozen (p := ⟨b, 2, none⟩) bl).trans (hfs 2)
  have n3 := (hbb.frozen (p := ⟨b, 3, none⟩) bl).trans (hfs 3)
  have hne : w.heap.size ≠ b := by omega
  have hC := St.start 1 hbb bl
  clear hcells hSp hcap hg k1 k2 k3 bl hbb hcs hfs
  go_wp2_with fail
  have hC0 : QC w b t0 t1 t2 w1.drew := ⟨q0, q1, q2, hg1.below (Below.refl _ _).drew, ⟨_, m1⟩, ⟨_, m2⟩, ⟨_, m3⟩, n1, n2, n3, ⟨none, none, none, hC.drew⟩⟩
  clear q0 q1 q2 m1 m2 m3 n1 n2 n3 hg1 hC
  have hconst : ∀ p : Prop, (∀ w', QC w b t0 t1 t2 w' → p) = p := fun p => propext ⟨fun h => h _ hC0, fun h _ _ => h⟩
  have hC0' : Hid _ := hC0
  clear hC0
  refine region_WQ (C := QC w b t0 t1 t2) (by kernel_rfl) (by kernel_rfl) hC0'.out ?_
  iterate 5 (refine WQ_step (fun K hK => ?_); simp only [SQ_eq]; go_simp; refine hK _ ?_; clear hK K)
  refine WQ_step (fun K hK => ?_)
  simp only [SQ_eq]
  go_simp
  refine Exists.intro (Value.string t0) (And.intro (fun w' hw => (by have h := hw.q0; simp [h])) ?_)
  go_simp
  refine hK _ ?_
  clear hK K
  iterate 1 (refine WQ_step (fun K hK => ?_); simp only [SQ_eq]; go_simp; refine hK _ ?_; clear hK K)
  refine WQ_step (fun K hK => ?_)
  simp only [SQ_eq]
  go_simp
  refine Exists.intro (Value.agg #[.int .i64 1970, .int .i64 2200]) (And.intro (fun w' hw => (by have h := hw.gl.gl.lim 0 1970 rfl; have h2 := hw.gl.gl.lim 1 2200 rfl; simp [h, h2])) ?_)
  go_simp
  refine hK _ ?_
  clear hK K
  refine WQ_step (fun K hK => ?_)
  simp only [SQ_eq]
  go_simp
  refine Exists.intro (Value.bool true) (And.intro (fun w' hw => qc1 hb2 hne t0 1970 2200 true o1'.out z0 hw) ?_)
  go_simp
  refine hK _ ?_
  clear hK K
  iterate 6 (refine WQ_step (fun K hK => ?_); simp only [SQ_eq]; go_simp; refine hK _ ?_; clear hK K)
  refine WQ_step (fun K hK => ?_)
  simp only [SQ_eq]
  go_simp
  refine Exists.intro (Value.string t1) (And.intro (fun w' hw => (by have h := hw.q1; simp [h])) ?_)
  go_simp
  refine hK _ ?_
  clear hK K
  iterate 1 (refine WQ_step (fun K hK => ?_); simp only [SQ_eq]; go_simp; refine hK _ ?_; clear hK K)
  refine WQ_step (fun K hK => ?_)
  simp only [SQ_eq]
  go_simp
  refine Exists.intro (Value.agg #[.int .i64 1, .int .i64 12]) (And.intro (fun w' hw => (by have h := hw.gl.gl.lim 2 1 rfl; have h2 := hw.gl.gl.lim 3 12 rfl; simp [h, h2])) ?_)
  go_simp
  refine hK _ ?_
  clear hK K
  refine WQ_step (fun K hK => ?_)
  simp only [SQ_eq]
  go_simp
  refine Exists.intro (Value.bool false) (And.intro (fun w' hw => qc2 hb2 hne t1 1 12 false o2'.out z1 hw) ?_)
  go_simp
  refine hK _ ?_
  clear hK K
  iterate 13 (refine WQ_step (fun K hK => ?_); simp only [SQ_eq]; go_simp; refine hK _ ?_; clear hK K)
  refine WQ_nil ?_
  intro w' hw
  obtain ⟨c1, c2, c3, hC'⟩ := hw.st
  go_wp2_with fail
  go_ret
  exact ⟨rfl, c1, c2, c3, hC'⟩
end Go.Proofs.YtehlnhljpdjppaaGreatDoor
/- The contract of package calendar's parseDate. -/
namespace Go.Proofs.YtehlnhljpdjppaaGreatDoor
open Go.RowKit
set_option maxRecDepth 100000 in
set_option maxHeartbeats 4000000 in
theorem parseDate_any (s : ByteArray) (b : Nat) (w : World) (hg : GlP w) (hs : s.size ≤ 100000) (hcb : Cb w b) :
    Calls Tryz.prog 55 #[.pointer (some ⟨b, 0, none⟩), .string s] w fun e w' => e = .returned (.bool (pD s).isSome) ∧ Told (pD s) b 1 w w' := by
  obtain ⟨hb2, hcs, hfs⟩ := hcb
  obtain ⟨u1, k1⟩ := hcs 1 (by omega)
  obtain ⟨u2, k2⟩ := hcs 2 (by omega)
  obtain ⟨u3, k3⟩ := hcs 3 (by omega)
  have bl : b < w.heap.size := cell_lt k1
  have hSp := split_any s (str1 45) 3 w hg hs (by decide) (by decide)
  have hle := fun x hx => Nat.le_trans (splitB_le (str1 45) (min (3 + 1) (s.size + 1) - 1) s x hx) hs
  change ∀ x ∈ splitT s (str1 45) 3, x.size ≤ 100000 at hle
  unfold pD
  obtain ⟨L, hL⟩ : ∃ L, splitT s (str1 45) 3 = L := ⟨_, rfl⟩
  rw [hL] at hSp hle ⊢
  clear hL
  by_cases h3 : L.length = 3
  · obtain ⟨t0, t1, t2, rfl⟩ : ∃ t0 t1 t2, L = [t0, t1, t2] := by
      match L, h3 with
      | [a, b, c], _ => exact ⟨a, b, c, rfl⟩
    have z0 := hle t0 (by simp)
    have z1 := hle t1 (by simp)
    have z2 := hle t2 (by simp)
    clear hle h3
    have hR : Hid (p3L [t0, t1, t2] 1970 2200 1 12 1 31 = (pNs t0 1970 2200).bind fun r => (pNs t1 1 12).bind fun q => (pNs t2 1 31).map fun p => (r, q, p)) := rfl
    cases o1 : (pNs t0 1970 2200).isSome
    · have hN : Hid (p3L [t0, t1, t2] 1970 2200 1 12 1 31 = none) := by show _ = _; rw [hR.out, none_of o1]; rfl
      refine (pdate1 s t0 t1 t2 b w hg ⟨hb2, hcs, hfs⟩ z0 hSp o1).mono ?_
      rintro e w' ⟨rfl, c1, c2, c3, hC⟩
      exact ⟨by rw [hN.out]; rfl, c1, c2, c3, hC, fun x y z e => by rw [hN.out] at e; cases e⟩
    · cases o2 : (pNs t1 1 12).isSome
      · have hN : Hid (p3L [t0, t1, t2] 1970 2200 1 12 1 31 = none) := by
          show _ = _
          rw [hR.out, none_of o2]
          cases pNs t0 1970 2200 <;> rfl
        refine (pdate2 s t0 t1 t2 b w hg ⟨hb2, hcs, hfs⟩ z0 z1 hSp o1 o2).mono ?_
        rintro e w' ⟨rfl, c1, c2, c3, hC⟩
        exact ⟨by rw [hN.out]; rfl, c1, c2, c3, hC, fun x y z e => by rw [hN.out] at e; cases e⟩
      · have hN : Hid (p3L [t0, t1, t2] 1970 2200 1 12 1 31 = (pNs t2 1 31).map fun p => ((pNs t0 1970 2200).getD [], (pNs t1 1 12).getD [], p)) := by
          show _ = _
          rw [hR.out]
          obtain ⟨x0, e0⟩ := Option.isSome_iff_exists.1 o1
          obtain ⟨x1, e1⟩ := Option.isSome_iff_exists.1 o2
          rw [e0, e1]; rfl
        go_enter Tryz.func55, Tryz.ntmps55
        go_wp2_with fail
        refine hSp.mono ?_
        rintro e w1 ⟨cap, rfl, hcap, hbb, hcells⟩
        have hg1 := hg.below hbb
        have q0 := hcells 0 t0 rfl
        have q1 := hcells 1 t1 rfl
        have q2 := hcells 2 t2 rfl
        have m1 := (hbb.cell (p := ⟨b, 1, none⟩) bl).trans k1
        have m2 := (hbb.cell (p := ⟨b, 2, none⟩) bl).trans k2
        have m3 := (hbb.cell (p := ⟨b, 3, none⟩) bl).trans k3
        have n1 := (hbb.frozen (p := ⟨b, 1, none⟩) bl).trans (hfs 1)
        have n2 := (hbb.frozen (p := ⟨b, 2, none⟩) bl).trans (hfs 2)
        have n3 := (hbb.frozen (p := ⟨b, 3, none⟩) bl).trans (hfs 3)
        have l0 := hg1.gl.lim 0 1970 rfl
        have l1 := hg1.gl.lim 1 2200 rfl
        have l2 := hg1.gl.lim 2 1 rfl
        have l3 := hg1.gl.lim 3 12 rfl
        have l4 := hg1.gl.lim 4 1 rfl
        have l5 := hg1.gl.lim 5 31 rfl
        have hne : w.heap.size ≠ b := by omega
        have hC := St.start 1 hbb bl
        clear hcells hSp hcap hs hg k1 k2 k3 bl hbb hcs hfs
        go_wp2_with fail
        go_region_held3 (fun w' => w'.cell? ⟨w.heap.size, 0, none⟩ = some (.string t0) ∧ w'.cell? ⟨w.heap.size, 1, none⟩ = some (.string t1) ∧ w'.cell? ⟨w.heap.size, 2, none⟩ = some (.string t2) ∧ w'.cell? ⟨0, 0, none⟩ = some (.int .i64 1970) ∧ w'.cell? ⟨0, 1, none⟩ = some (.int .i64 2200) ∧ w'.cell? ⟨0, 2, none⟩ = some (.int .i64 1) ∧ w'.cell? ⟨0, 3, none⟩ = some (.int .i64 12) ∧ w'.cell? ⟨0, 4, none⟩ = some (.int .i64 1) ∧ w'.cell? ⟨0, 5, none⟩ = some (.int .i64 31))
          (first
            | assumption
            | exact hS
            | (refine ⟨?_, ?_, ?_, ?_, ?_, ?_, ?_, ?_, ?_⟩ <;> assumption)
            | (go_split_ands; refine ⟨?_, ?_, ?_, ?_, ?_, ?_, ?_, ?_, ?_⟩ <;> assumption))
          (first
            | (go_at_call 76; refine (pn2 _ _ _ b _ _ _ (by first | exact Or.inl rfl | exact Or.inr rfl) hg1 (by assumption) (by first | exact ⟨_, m1⟩ | exact ⟨_, m2⟩ | exact ⟨_, m3⟩) (by first | exact n1 | exact n2 | exact n3)).mono ?_; rintro e w2 ⟨he, sl, hu, hp⟩; (try rw [o1] at he); (try rw [o2] at he); subst he; replace hg1 := hu.glp hg1 hb2; (try replace m1 := (hu.cell 1 (by decide)).trans m1); (try replace m2 := (hu.cell 2 (by decide)).trans m2); (try replace m3 := (hu.cell 3 (by decide)).trans m3); replace n1 := (hu.froz 1).trans n1; replace n2 := (hu.froz 2).trans n2; replace n3 := (hu.froz 3).trans n3; replace q0 := hu.old hne q0; replace q1 := hu.old hne q1; replace q2 := hu.old hne q2; have hS := And.intro q0 (And.intro q1 (And.intro q2 (And.intro (hg1.gl.lim 0 1970 rfl) (And.intro (hg1.gl.lim 1 2200 rfl) (And.intro (hg1.gl.lim 2 1 rfl) (And.intro (hg1.gl.lim 3 12 rfl) (And.intro (hg1.gl.lim 4 1 rfl) (hg1.gl.lim 5 31 rfl)))))))); (first | replace hC := St.n1 hC hu hp | replace hC := St.n2 hC hu hp | replace hC := St.n3 hC hu hp); clear hu hp))
        go_wp2_with fail
        go_ret
        refine ⟨ret_bool (by rw [hN.out]; simp), _, _, _, (by first | exact hC | exact hC.drew), fun x y z e => ?_⟩
        rw [hN.out] at e
        cases hz : pNs t2 1 31 with
        | none => rw [hz] at e; cases e
        | some p => rw [hz] at e; cases e; exact ⟨rfl, rfl, rfl⟩
  · have hF : Hid (p3L L 1970 2200 1 12 1 31 = none) := by
      show _ = _
      match L, h3 with
      | [], _ => rfl
      | [_], _ => rfl
      | [_, _], _ => rfl
      | [_, _, _], h => exact absurd rfl h
      | _ :: _ :: _ :: _ :: _, _ => rfl
    clear hle
    go_enter Tryz.func55, Tryz.ntmps55
    go_wp2_with fail
    refine hSp.mono ?_
    rintro e w1 ⟨cap, rfl, hcap, hbb, hcells⟩
    have h3' : ¬ ((L.length : Int) = 3) := by omega
    clear h3
    go_wp2_with fail
    go_ret
    exact ⟨by rw [hF.out]; rfl, none, none, none, St.start 1 hbb bl, fun x y z e => by rw [hF.out] at e; cases e⟩
end Go.Proofs.YtehlnhljpdjppaaGreatDoor
