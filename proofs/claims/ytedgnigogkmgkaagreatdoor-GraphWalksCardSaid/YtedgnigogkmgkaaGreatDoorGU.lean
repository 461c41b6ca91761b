/- Units in memory; the contract of graph.copied. -/
import Derived.Test.YtedgnigogkmgkaaGreatDoorGM
import Derived.Test.YtedgnigogkmgkaaGreatDoorShelfC
import Derived.Test.YtedgnigogkmgkaaGreatDoorRZ2
namespace Go.Proofs.YtedgnigogkmgkaaGreatDoor
open Go.RowKit Go.Shelf Go.Lib
/-- The block that a slice reads. -/
def rbk : Value → Option Nat
  | .slice (some a) n _ => if n = 0 then none else some a.block
  | _ => none
/-- A row of texts that is read. -/
def NR (w : World) (v : Value) (xs : List ByteArray) : Prop :=
  (xs = [] ∧ ∃ p c, v = .slice p 0 c) ∨ (∃ b o c, v = .slice (some ⟨b, o, none⟩) xs.length c ∧ xs ≠ [] ∧ xs.length ≤ 1000000 ∧ ∀ j x, xs[j]? = some x → w.cell? ⟨b, o + j, none⟩ = some (.string x))
theorem NR.mv {w w' : World} {v : Value} {xs : List ByteArray} {E : Nat → Prop} (h : NR w v xs) (m : Mv E w w') (hE : ∀ b, rbk v = some b → ¬ E b) : NR w' v xs := by
  rcases h with h | ⟨b, o, c, rfl, h1, h2, h3⟩
  · exact .inl h
  · have hb : rbk (.slice (some ⟨b, o, none⟩) xs.length c) = some b := by
      unfold rbk
      simp [h1]
    exact .inr ⟨b, o, c, rfl, h1, h2, fun j x hx => m.cell (hE b hb) (h3 j x hx)⟩
theorem NR.lt {w : World} {v : Value} {xs : List ByteArray} (h : NR w v xs) {b : Nat} (hb : rbk v = some b) : b < w.heap.size := by
  rcases h with ⟨_, p, c, rfl⟩ | ⟨b2, o, c, rfl, h1, h2, h3⟩
  · cases p <;> simp [rbk] at hb
  · unfold rbk at hb
    simp [h1] at hb
    subst hb
    obtain ⟨x, r, rfl⟩ : ∃ x r, xs = x :: r := by cases xs with | nil => exact absurd rfl h1 | cons x r => exact ⟨x, r, rfl⟩
    exact cell_lt (h3 0 x rfl)
theorem NR.own {w : World} {v : Value} {base : Nat} {e : TypeId} {xs : List ByteArray} (h : w.ownsRow base e 1 v xs.length (xs.map Value.string)) (hl : xs.length ≤ 1000000) : NR w v xs ∧ ∀ b, rbk v = some b → base ≤ b := by
  rcases h.2 with ⟨rfl, h0⟩ | ⟨g, cap, cur, rfl, hb, hg, h1, h2, h3, h4⟩
  · have := List.eq_nil_of_length_eq_zero h0
    subst this
    exact ⟨.inl ⟨rfl, none, 0, rfl⟩, fun b hb => by simp [rbk] at hb⟩
  · refine ⟨?_, fun b hk => ?_⟩
    · by_cases hx : xs = []
      · subst hx; exact .inl ⟨rfl, _, _, rfl⟩
      · refine .inr ⟨g, 0, cap, rfl, hx, hl, fun j x hx => ?_⟩
        have := h.cells (g := g) rfl j (.string x) (by rw [List.getElem?_map, hx]; rfl)
        rw [Addr.add_lit] at this
        exact this
    · unfold rbk at hk
      simp at hk
      obtain ⟨_, rfl⟩ := hk
      exact hb
/-- Copies of rows. -/
theorem clone_any (v : Value) (xs : List ByteArray) (w : World) (h : NR w v xs) :
    Calls Tryz.prog 61 #[v] w fun e w' => ∃ v', e = .returned v' ∧ NR w' v' xs ∧ (∀ b, rbk v' = some b → w.heap.size ≤ b) ∧ Below w.heap.size w w' := by
  rcases h with ⟨rfl, p, c, rfl⟩ | ⟨b, o, c, rfl, h1, h2, h3⟩
  · cases p with
    | none =>
      refine (Tryz.slices_Clone_string_nil 0 c w).mono ?_
      rintro e w' ⟨rfl, rfl⟩
      exact ⟨_, rfl, .inl ⟨rfl, none, 0, rfl⟩, fun b hb => by simp [rbk] at hb, Below.refl _ _⟩
    | some a =>
      refine (Tryz.slices_Clone_string_zero a c w).mono ?_
      rintro e w' ⟨v', rfl, ho, _, hb⟩
      obtain ⟨q1, q2⟩ := NR.own (xs := []) ho (by simp)
      exact ⟨_, rfl, q1, q2, hb⟩
  · refine (Tryz.slices_Clone_string b o xs.length c xs w (Nat.le_refl _) (by omega) (fun j hj => by
      have : xs[j]? = some xs[j] := List.getElem?_eq_getElem hj
      rw [List.getD_eq_getElem?_getD, this]
      exact h3 j _ this)).mono ?_
    rintro e w' ⟨v', rfl, ho, _, hb⟩
    rw [List.take_length] at ho
    obtain ⟨q1, q2⟩ := NR.own ho h2
    exact ⟨_, rfl, q1, q2, hb⟩
/-- A unit's cells. -/
structure UV (w : World) (vs : Array Value) (u : Un) : Prop where
  sz : vs.size = 33
  on : ∀ (p : Nat) (v : Value), vs[p]? = some v → v.oneCell' = true
  c0 : vs[0]? = some (.string u.nm)
  c1 : vs[1]? = some (.int .i64 u.kd)
  c10 : vs[10]? = some (.bool u.pl)
  c25 : vs[25]? = some (.string u.tg)
  ls : ∀ (i p : Nat), posL[i]? = some p → ∃ v, vs[p]? = some v ∧ NR w v (u.ls i)
  os : ∀ p, p < 33 → p ∉ posL → vs[p]? = some (u.ot p) ∧ rbk (u.ot p) = none
/-- The blocks that a unit's lists lie in. -/
def ubk (vs : Array Value) (b : Nat) : Prop := ∃ (p : Nat) (v : Value), vs[p]? = some v ∧ rbk v = some b
theorem UV.mv {w w' : World} {vs : Array Value} {u : Un} {E : Nat → Prop} (h : UV w vs u) (m : Mv E w w') (hE : ∀ b, ubk vs b → ¬ E b) : UV w' vs u :=
  ⟨h.sz, h.on, h.c0, h.c1, h.c10, h.c25, fun i p hp => by obtain ⟨v, h1, h2⟩ := h.ls i p hp; exact ⟨v, h1, h2.mv m fun b hb => hE b ⟨p, v, h1, hb⟩⟩, h.os⟩
theorem UV.below {w w' : World} {vs : Array Value} {u : Un} (h : UV w vs u) (b : Below w.heap.size w w') : UV w' vs u := h.mv (E := fun _ => False) (Mv.below b) (fun _ _ h => h)
theorem UV.lt {w : World} {vs : Array Value} {u : Un} (h : UV w vs u) {b : Nat} (hb : ubk vs b) : b < w.heap.size := by
  obtain ⟨p, v, h1, h2⟩ := hb
  have hp : p < 33 := by have := (Array.getElem?_eq_some_iff.1 h1).1; have := h.sz; omega
  by_cases hm : p ∈ posL
  · obtain ⟨i, hi⟩ := List.mem_iff_getElem?.1 hm
    obtain ⟨v2, h3, h4⟩ := h.ls i p hi
    rw [h1] at h3; cases h3
    exact h4.lt h2
  · have := h.os p hp hm
    rw [h1] at this
    obtain ⟨q, q2⟩ := this
    cases q
    rw [q2] at h2; cases h2
/-- The cells of a unit in a block. -/
def Ub (n : Nat) (vs : Array Value) (w : World) : Prop := ∀ p v, vs[p]? = some v → w.cell? ⟨n, p, none⟩ = some v
theorem Ub.mk' (w : World) (vs : Array Value) (t : TypeId) : Ub w.heap.size vs (w.alloc (.cells vs t)) := fun _ _ h => cell_at rfl h
theorem Ub.mv {n : Nat} {vs : Array Value} {w w' : World} {E : Nat → Prop} (h : Ub n vs w) (m : Mv E w w') (hE : ¬ E n) : Ub n vs w' := fun p v hp => m.cell (a := ⟨n, p, none⟩) hE (h p v hp)
theorem Ub.load {n : Nat} {vs : Array Value} {w : World} (h : Ub n vs w) (hs : vs.size = 33) : (loadCells ⟨n, 0, none⟩ 33).run Tryz.prog w = .ok vs w := by
  have := run_loadCells_list (P := Tryz.prog) (w := w) ⟨n, 0, none⟩ vs.toList (fun j v hj => by
    rw [Addr.add_lit]
    exact h (0 + j) v (by rw [Nat.zero_add, ← Array.getElem?_toList]; exact hj))
  rw [Array.length_toList, hs] at this
  simpa using this
theorem NR.one {w : World} {v : Value} {xs : List ByteArray} (h : NR w v xs) : v.oneCell' = true := by
  rcases h with ⟨_, p, c, rfl⟩ | ⟨b, o, c, rfl, _⟩ <;> rfl
/-- A whole unit is stored. -/
theorem Ub.store {n : Nat} {vs : Array Value} {w : World} {P : Program} (hs : vs.size = 33) (h1 : ∀ (p : Nat) (v : Value), vs[p]? = some v → v.oneCell' = true) (hc : ∀ p, p < 33 → (w.cell? ⟨n, p, none⟩).isSome = true) (hf : ∀ p, w.frozen? ⟨n, p, none⟩ = false) :
    ∃ W, (storeCells ⟨n, 0, none⟩ vs.toList).run P w = .ok () W ∧ Ub n vs W ∧ Mv (fun k => k = n) w W := by
  have hl : vs.toList.length = 33 := by rw [Array.length_toList]; exact hs
  refine ⟨w.setCells n 0 vs.toList, ?_, fun p v hv => ?_, (Mv.refl (fun k => k = n) w).setCells (.inl rfl) _ _⟩
  · have := run_storeCells_cells (P := P) n 0 vs.toList 0 w (fun j hj => by simpa using hc j (by omega)) (fun j _ => by simpa using hf j) (fun v hv => by
      obtain ⟨p, hp⟩ := List.mem_iff_getElem?.1 hv
      exact h1 p v (by rw [← Array.getElem?_toList]; exact hp))
    simpa using this
  · rw [← Array.getElem?_toList] at hv
    obtain ⟨hlt, hge⟩ := List.getElem?_eq_some_iff.1 hv
    have := World.cell?_setCells_in n vs.toList 0 w (fun j hj => by simpa using hc j (by omega)) p hlt
    rw [Nat.zero_add] at this
    rw [this, hge]
end Go.Proofs.YtedgnigogkmgkaaGreatDoor
