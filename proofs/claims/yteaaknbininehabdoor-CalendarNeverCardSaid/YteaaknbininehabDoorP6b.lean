/- Three lists of an expression, told one after the other: the worlds between. -/
import Derived.Test.YteaaknbininehabDoorP5a
import Derived.Deep.RegionHeld3
import Derived.Deep.QuietTactic
namespace Go.Proofs.YteaaknbininehabDoor
open Go.RowKit
theorem pn2 (s : ByteArray) (lo hi : Int) (b o : Nat) (W w : World) (h : W = w ∨ W = w.drew) (hg : GlP w) (hs : s.size ≤ 100000) (hc : ∃ u, w.cell? ⟨b, o, none⟩ = some u) (hf : w.frozen? ⟨b, o, none⟩ = false) :
    Calls Tryd.prog 51 #[.pointer (some ⟨b, o, none⟩), .string s, .agg #[.int .i64 lo, .int .i64 hi]] W fun e w' => e = .returned (.bool (pNs s lo hi).isSome) ∧ ∃ sl : Sl, Upd b o (slv sl) w w' ∧ Pin (fun k => k < w.heap.size) w' (slv sl) ((pNs s lo hi).getD []) := by
  obtain ⟨u, hc⟩ := hc
  rcases h with rfl | rfl
  · exact parseNumbers_any s lo hi b o u W hg hs hc hf
  · refine (parseNumbers_any s lo hi b o u w.drew (hg.below (Below.refl _ _).drew) hs hc hf).mono ?_
    rintro e w' ⟨he, sl, hu, hp⟩
    exact ⟨he, sl, ⟨hu.os, hu.tape, hu.output, hu.size, hu.block, hu.cell, hu.froz, hu.here⟩, hp⟩
/-- Three lists of an expression in block b, from cell o on: those that are told by c lie there; else nothing has turned. -/
structure St (W0 : World) (b o : Nat) (c1 c2 c3 : Option (List Part)) (W : World) : Prop where
  os : W.os = W0.os
  tape : W.tape = W0.tape
  output : W.output = W0.output
  size : W0.heap.size ≤ W.heap.size
  lt : b < W0.heap.size
  block : ∀ k, k < W0.heap.size → k ≠ b → W.heap[k]? = W0.heap[k]?
  froz : ∀ j, W.frozen? ⟨b, j, none⟩ = W0.frozen? ⟨b, j, none⟩
  rest : ∀ j, j ≠ o → j ≠ o + 1 → j ≠ o + 2 → W.cell? ⟨b, j, none⟩ = W0.cell? ⟨b, j, none⟩
  there : ∀ j, (W0.cell? ⟨b, j, none⟩).isSome = true → (W.cell? ⟨b, j, none⟩).isSome = true
  p1 : ∀ ps, c1 = some ps → ∃ sl : Sl, W.cell? ⟨b, o, none⟩ = some (slv sl) ∧ Pin (fun k => k = b) W (slv sl) ps
  p2 : ∀ ps, c2 = some ps → ∃ sl : Sl, W.cell? ⟨b, o + 1, none⟩ = some (slv sl) ∧ Pin (fun k => k = b) W (slv sl) ps
  p3 : ∀ ps, c3 = some ps → ∃ sl : Sl, W.cell? ⟨b, o + 2, none⟩ = some (slv sl) ∧ Pin (fun k => k = b) W (slv sl) ps
theorem pin_weak {E E' : Nat → Prop} {W : World} {v : Value} {ps : List Part} (h : Pin E W v ps) (he : ∀ k, E' k → E k) : Pin E' W v ps := by
  obtain ⟨p, cap, rfl, hl, hc⟩ := h
  refine ⟨p, cap, rfl, hl, fun i q hq => ?_⟩
  obtain ⟨b', o', e, hE, r⟩ := hc i q hq
  exact ⟨b', o', e, fun h => hE (he _ h), r⟩
theorem Upd.there {b o : Nat} {v : Value} {w w' : World} (h : Upd b o v w w') (j : Nat) (hj : (w.cell? ⟨b, j, none⟩).isSome = true) : (w'.cell? ⟨b, j, none⟩).isSome = true := by
  by_cases e : j = o
  · subst e; rw [h.here]; rfl
  · rw [h.cell j e]; exact hj
theorem St.start {w w1 : World} {b : Nat} (o : Nat) (hb : Below w.heap.size w w1) (hl : b < w.heap.size) : St w b o none none none w1 :=
  ⟨hb.os, hb.tape, hb.output, hb.size, hl, fun k hk _ => hb.block k hk, fun j => hb.frozen (p := ⟨b, j, none⟩) hl, fun j _ _ _ => hb.cell (p := ⟨b, j, none⟩) hl, fun j h => by rw [hb.cell (p := ⟨b, j, none⟩) hl]; exact h, fun _ h => (by cases h), fun _ h => (by cases h), fun _ h => (by cases h)⟩
theorem St.n1 {W0 W W' : World} {b o : Nat} {c1 c2 c3 : Option (List Part)} {sl : Sl} {ps : List Part} (h : St W0 b o c1 c2 c3 W) (hu : Upd b o (slv sl) W W') (hp : Pin (fun k => k < W.heap.size) W' (slv sl) ps) : St W0 b o (some ps) c2 c3 W' := by
  have hbl : b < W.heap.size := Nat.lt_of_lt_of_le h.lt h.size
  refine ⟨hu.os.trans h.os, hu.tape.trans h.tape, hu.output.trans h.output, Nat.le_trans h.size hu.size, h.lt, fun k hk hne => (hu.block k (Nat.lt_of_lt_of_le hk h.size) hne).trans (h.block k hk hne), fun j => (hu.froz j).trans (h.froz j), fun j a c d => (hu.cell j a).trans (h.rest j a c d), fun j hj => hu.there j (h.there j hj), fun qs e => ?_, fun qs e => ?_, fun qs e => ?_⟩
  · cases e; exact ⟨sl, hu.here, pin_weak hp (fun k e => by subst e; exact hbl)⟩
  · obtain ⟨s2, a, c⟩ := h.p2 qs e; exact ⟨s2, (hu.cell _ (by omega)).trans a, hu.pin c rfl⟩
  · obtain ⟨s2, a, c⟩ := h.p3 qs e; exact ⟨s2, (hu.cell _ (by omega)).trans a, hu.pin c rfl⟩
theorem St.n2 {W0 W W' : World} {b o : Nat} {c1 c2 c3 : Option (List Part)} {sl : Sl} {ps : List Part} (h : St W0 b o c1 c2 c3 W) (hu : Upd b (o + 1) (slv sl) W W') (hp : Pin (fun k => k < W.heap.size) W' (slv sl) ps) : St W0 b o c1 (some ps) c3 W' := by
  have hbl : b < W.heap.size := Nat.lt_of_lt_of_le h.lt h.size
  refine ⟨hu.os.trans h.os, hu.tape.trans h.tape, hu.output.trans h.output, Nat.le_trans h.size hu.size, h.lt, fun k hk hne => (hu.block k (Nat.lt_of_lt_of_le hk h.size) hne).trans (h.block k hk hne), fun j => (hu.froz j).trans (h.froz j), fun j a c d => (hu.cell j c).trans (h.rest j a c d), fun j hj => hu.there j (h.there j hj), fun qs e => ?_, fun qs e => ?_, fun qs e => ?_⟩
  · obtain ⟨s2, a, c⟩ := h.p1 qs e; exact ⟨s2, (hu.cell _ (by omega)).trans a, hu.pin c rfl⟩
  · cases e; exact ⟨sl, hu.here, pin_weak hp (fun k e => by subst e; exact hbl)⟩
  · obtain ⟨s2, a, c⟩ := h.p3 qs e; exact ⟨s2, (hu.cell _ (by omega)).trans a, hu.pin c rfl⟩
theorem St.n3 {W0 W W' : World} {b o : Nat} {c1 c2 c3 : Option (List Part)} {sl : Sl} {ps : List Part} (h : St W0 b o c1 c2 c3 W) (hu : Upd b (o + 2) (slv sl) W W') (hp : Pin (fun k => k < W.heap.size) W' (slv sl) ps) : St W0 b o c1 c2 (some ps) W' := by
  have hbl : b < W.heap.size := Nat.lt_of_lt_of_le h.lt h.size
  refine ⟨hu.os.trans h.os, hu.tape.trans h.tape, hu.output.trans h.output, Nat.le_trans h.size hu.size, h.lt, fun k hk hne => (hu.block k (Nat.lt_of_lt_of_le hk h.size) hne).trans (h.block k hk hne), fun j => (hu.froz j).trans (h.froz j), fun j a c d => (hu.cell j d).trans (h.rest j a c d), fun j hj => hu.there j (h.there j hj), fun qs e => ?_, fun qs e => ?_, fun qs e => ?_⟩
  · obtain ⟨s2, a, c⟩ := h.p1 qs e; exact ⟨s2, (hu.cell _ (by omega)).trans a, hu.pin c rfl⟩
  · obtain ⟨s2, a, c⟩ := h.p2 qs e; exact ⟨s2, (hu.cell _ (by omega)).trans a, hu.pin c rfl⟩
  · cases e; exact ⟨sl, hu.here, pin_weak hp (fun k e => by subst e; exact hbl)⟩
theorem St.drew {W0 W : World} {b o : Nat} {c1 c2 c3 : Option (List Part)} (h : St W0 b o c1 c2 c3 W) : St W0 b o c1 c2 c3 W.drew :=
  ⟨h.os, h.tape, h.output, h.size, h.lt, h.block, h.froz, h.rest, h.there, h.p1, h.p2, h.p3⟩
theorem none_of {x : Option (List Part)} (h : x.isSome = false) : x = none := by cases x with | none => rfl | some a => cases h
theorem some_of {x : Option (List Part)} (h : x.isSome = true) : x = some (x.getD []) := by cases x with | none => cases h | some a => rfl
def p3L (l : List ByteArray) (a b c d e f : Int) : Option (List Part × List Part × List Part) :=
  match l with
  | [x, y, z] => (pNs x a b).bind fun r => (pNs y c d).bind fun q => (pNs z e f).map fun p => (r, q, p)
  | _ => none
def pD (s : ByteArray) : Option (List Part × List Part × List Part) := p3L (splitT s (str1 45) 3) 1970 2200 1 12 1 31
/-- What is asked of the block in which the expression is told. -/
structure Cb (w : World) (b : Nat) : Prop where
  hb : 2 < b
  hc : ∀ j, j < 7 → ∃ u, w.cell? ⟨b, j, none⟩ = some u
  hf : ∀ j, w.frozen? ⟨b, j, none⟩ = false
/-- What is told of the lists behind it. -/
def Told (r : Option (List Part × List Part × List Part)) (b o : Nat) (w w' : World) : Prop := ∃ c1 c2 c3, St w b o c1 c2 c3 w' ∧ ∀ x y z, r = some (x, y, z) → c1 = some x ∧ c2 = some y ∧ c3 = some z
/-- The worlds among which the statement's steps go. -/
structure QC (w : World) (b : Nat) (t0 t1 t2 : ByteArray) (w' : World) : Prop where
  q0 : w'.cell? ⟨w.heap.size, 0, none⟩ = some (.string t0)
  q1 : w'.cell? ⟨w.heap.size, 1, none⟩ = some (.string t1)
  q2 : w'.cell? ⟨w.heap.size, 2, none⟩ = some (.string t2)
  gl : GlP w'
  m1 : ∃ u, w'.cell? ⟨b, 1, none⟩ = some u
  m2 : ∃ u, w'.cell? ⟨b, 2, none⟩ = some u
  m3 : ∃ u, w'.cell? ⟨b, 3, none⟩ = some u
  n1 : w'.frozen? ⟨b, 1, none⟩ = false
  n2 : w'.frozen? ⟨b, 2, none⟩ = false
  n3 : w'.frozen? ⟨b, 3, none⟩ = false
  st : ∃ c1 c2 c3, St w b 1 c1 c2 c3 w'
theorem Upd.ex {b o : Nat} {v : Value} {w w' : World} (h : Upd b o v w w') (j : Nat) (hj : j ≠ o) (hu : ∃ u, w.cell? ⟨b, j, none⟩ = some u) : ∃ u, w'.cell? ⟨b, j, none⟩ = some u := by
  obtain ⟨u, hu⟩ := hu
  exact ⟨u, (h.cell j hj).trans hu⟩
theorem qc1 {w w' : World} {b : Nat} {t0 t1 t2 : ByteArray} (hb2 : 2 < b) (hne : w.heap.size ≠ b) (t : ByteArray) (lo hi : Int) (r : Bool) (hr : (pNs t lo hi).isSome = r) (hz : t.size ≤ 100000) (hq : QC w b t0 t1 t2 w') :
    Calls Tryd.prog 51 #[.pointer (some ⟨b, 1, none⟩), .string t, .agg #[.int .i64 lo, .int .i64 hi]] w' fun e w'' => e = .returned (.bool r) ∧ QC w b t0 t1 t2 w'' := by
  refine (pn2 t lo hi b 1 w' w' (.inl rfl) hq.gl hz hq.m1 hq.n1).mono ?_
  rintro e w2 ⟨he, sl, hu, hp⟩
  rw [hr] at he
  obtain ⟨c1, c2, c3, hC⟩ := hq.st
  exact ⟨he, hu.old hne hq.q0, hu.old hne hq.q1, hu.old hne hq.q2, hu.glp hq.gl hb2, ⟨_, hu.here⟩, hu.ex 2 (by decide) hq.m2, hu.ex 3 (by decide) hq.m3, (hu.froz 1).trans hq.n1, (hu.froz 2).trans hq.n2, (hu.froz 3).trans hq.n3, ⟨_, _, _, St.n1 hC hu hp⟩⟩
theorem qc2 {w w' : World} {b : Nat} {t0 t1 t2 : ByteArray} (hb2 : 2 < b) (hne : w.heap.size ≠ b) (t : ByteArray) (lo hi : Int) (r : Bool) (hr : (pNs t lo hi).isSome = r) (hz : t.size ≤ 100000) (hq : QC w b t0 t1 t2 w') :
    Calls Tryd.prog 51 #[.pointer (some ⟨b, 2, none⟩), .string t, .agg #[.int .i64 lo, .int .i64 hi]] w' fun e w'' => e = .returned (.bool r) ∧ QC w b t0 t1 t2 w'' := by
  refine (pn2 t lo hi b 2 w' w' (.inl rfl) hq.gl hz hq.m2 hq.n2).mono ?_
  rintro e w2 ⟨he, sl, hu, hp⟩
  rw [hr] at he
  obtain ⟨c1, c2, c3, hC⟩ := hq.st
  exact ⟨he, hu.old hne hq.q0, hu.old hne hq.q1, hu.old hne hq.q2, hu.glp hq.gl hb2, hu.ex 1 (by decide) hq.m1, ⟨_, hu.here⟩, hu.ex 3 (by decide) hq.m3, (hu.froz 1).trans hq.n1, (hu.froz 2).trans hq.n2, (hu.froz 3).trans hq.n3, ⟨_, _, _, St.n2 hC hu hp⟩⟩
theorem qc3 {w w' : World} {b : Nat} {t0 t1 t2 : ByteArray} (hb2 : 2 < b) (hne : w.heap.size ≠ b) (t : ByteArray) (lo hi : Int) (r : Bool) (hr : (pNs t lo hi).isSome = r) (hz : t.size ≤ 100000) (hq : QC w b t0 t1 t2 w') :
    Calls Tryd.prog 51 #[.pointer (some ⟨b, 3, none⟩), .string t, .agg #[.int .i64 lo, .int .i64 hi]] w' fun e w'' => e = .returned (.bool r) ∧ QC w b t0 t1 t2 w'' := by
  refine (pn2 t lo hi b 3 w' w' (.inl rfl) hq.gl hz hq.m3 hq.n3).mono ?_
  rintro e w2 ⟨he, sl, hu, hp⟩
  rw [hr] at he
  obtain ⟨c1, c2, c3, hC⟩ := hq.st
  exact ⟨he, hu.old hne hq.q0, hu.old hne hq.q1, hu.old hne hq.q2, hu.glp hq.gl hb2, hu.ex 1 (by decide) hq.m1, hu.ex 2 (by decide) hq.m2, ⟨_, hu.here⟩, (hu.froz 1).trans hq.n1, (hu.froz 2).trans hq.n2, (hu.froz 3).trans hq.n3, ⟨_, _, _, St.n3 hC hu hp⟩⟩
end Go.Proofs.YteaaknbininehabDoor
