/- Edges by their ends, in memory. -/
import Derived.Test.YtcfclknfnadgcaaDoorGM2
import Derived.Test.YtcfclknfnadgcaaDoorRZ2
namespace Go.Proofs.YtcfclknfnadgcaaDoor
open Go.RowKit Go.Shelf Go.Lib
/-- What a map of edges tells of their numbers. -/
def cfS (C : Ed → Int) (e : EK) : Option Value := if C e.1 = 0 then none else some (.int .i64 (C e.1))
/-- Edges by a unit at one end: block eb the map, fb the blocks of its maps. -/
structure En (w : World) (eb : Nat) (fb : ByteArray → Option Nat) (C : ByteArray → Ed → Int) (c : Nat) : Prop where
  all : ∃ m, m ≤ c ∧ MS w eb m fun x => (fb x).map fun b => .map (some b)
  sub : ∀ x b, fb x = some b → ∃ n, n ≤ c ∧ n ≠ 0 ∧ ME w b n (cfS (C x))
  non : ∀ x, fb x = none → ∀ e, C x e = 0
  inj : ∀ x y b, fb x = some b → fb y = some b → x = y
  ne : ∀ x b, fb x = some b → b ≠ eb
  bd : ∀ x e, 0 ≤ C x e ∧ C x e ≤ c
  ok : ∀ x e, C x e ≠ 0 → okE e
def hasE (eb : Nat) (fb : ByteArray → Option Nat) (k : Nat) : Prop := k = eb ∨ ∃ x, fb x = some k
theorem En.lt {w : World} {eb : Nat} {fb : ByteArray → Option Nat} {C : ByteArray → Ed → Int} {c : Nat} (h : En w eb fb C c) {k : Nat} (hk : hasE eb fb k) : k < w.heap.size := by
  rcases hk with rfl | ⟨x, hx⟩
  · obtain ⟨m, _, q⟩ := h.all; exact q.lt
  · obtain ⟨n, _, _, q⟩ := h.sub x k hx; exact q.lt
theorem En.mv {w w' : World} {eb : Nat} {fb : ByteArray → Option Nat} {C : ByteArray → Ed → Int} {c : Nat} {E : Nat → Prop} (h : En w eb fb C c) (m : Mv E w w') (hE : ∀ k, hasE eb fb k → ¬ E k) : En w' eb fb C c := by
  obtain ⟨n, a, q⟩ := h.all
  refine ⟨⟨n, a, q.mv m (hE _ (.inl rfl))⟩, fun x b hx => ?_, h.non, h.inj, h.ne, h.bd, h.ok⟩
  obtain ⟨n, a, a2, q⟩ := h.sub x b hx
  exact ⟨n, a, a2, q.mv m (hE _ (.inr ⟨x, hx⟩))⟩
theorem En.below {w w' : World} {eb : Nat} {fb : ByteArray → Option Nat} {C : ByteArray → Ed → Int} {c : Nat} (h : En w eb fb C c) (b : Below w.heap.size w w') : En w' eb fb C c := h.mv (E := fun _ => False) (Mv.below b) (fun _ _ h => h)
theorem En.cong {w : World} {eb : Nat} {fb : ByteArray → Option Nat} {C D : ByteArray → Ed → Int} {c : Nat} (h : En w eb fb C c) (hD : ∀ x e, D x e = C x e) : En w eb fb D c := by
  have : D = C := funext fun x => funext fun e => hD x e
  rw [this]; exact h
theorem En.up {w : World} {eb : Nat} {fb : ByteArray → Option Nat} {C : ByteArray → Ed → Int} {c d : Nat} (h : En w eb fb C c) (hd : c ≤ d) : En w eb fb C d := by
  obtain ⟨n, a, q⟩ := h.all
  refine ⟨⟨n, by omega, q⟩, fun x b hx => ?_, h.non, h.inj, h.ne, fun x e => ⟨(h.bd x e).1, by have := (h.bd x e).2; omega⟩, h.ok⟩
  obtain ⟨n, a, a2, q⟩ := h.sub x b hx
  exact ⟨n, by omega, a2, q⟩
def updC (C : ByteArray → Ed → Int) (x : ByteArray) (e : Ed) (d : Int) : ByteArray → Ed → Int := fun y f => if y = x ∧ f = e then C y f + d else C y f
/-- From edges to edges. -/
structure EnGo (w : World) (eb : Nat) (fb : ByteArray → Option Nat) (w' : World) (fb' : ByteArray → Option Nat) : Prop where
  mv : Mv (hasE eb fb) w w'
  gr : ∀ k, hasE eb fb' k → hasE eb fb k ∨ w.heap.size ≤ k
/-- What is stored at an edge, in the words of the maps. -/
theorem cfS_upd {C : ByteArray → Ed → Int} {x : ByteArray} {e : EK} {d : Int} (hn : C x e.1 + d ≠ 0) (f : EK) : cfS (updC C x e.1 d x) f = if f = e then some (.int .i64 (C x e.1 + d)) else cfS (C x) f := by
  unfold cfS updC
  by_cases q : f = e
  · subst q; simp [hn]
  · have : ¬ f.1 = e.1 := fun h => q (Subtype.ext h)
    simp [q, this]
theorem cfS_zero {C : ByteArray → Ed → Int} {x : ByteArray} {e : EK} {d : Int} (hn : C x e.1 + d = 0) (f : EK) : cfS (updC C x e.1 d x) f = if f = e then none else cfS (C x) f := by
  unfold cfS updC
  by_cases q : f = e
  · subst q; simp [hn]
  · have : ¬ f.1 = e.1 := fun h => q (Subtype.ext h)
    simp [q, this]
theorem upd_other {C : ByteArray → Ed → Int} {x y : ByteArray} {e : Ed} {d : Int} (h : y ≠ x) (f : Ed) : updC C x e d y f = C y f := by
  unfold updC; rw [if_neg (fun q => h q.1)]
theorem upd_bd {C : ByteArray → Ed → Int} {c : Nat} (hb : ∀ x e, 0 ≤ C x e ∧ C x e ≤ c) {x : ByteArray} {e : Ed} {d : Int} (h0 : 0 ≤ C x e + d) (h1 : d ≤ 1) (y : ByteArray) (f : Ed) : 0 ≤ updC C x e d y f ∧ updC C x e d y f ≤ ((c + 1 : Nat) : Int) := by
  unfold updC
  have := hb y f
  split
  · next q => obtain ⟨rfl, rfl⟩ := q; omega
  · omega
theorem upd_ok {C : ByteArray → Ed → Int} (hk : ∀ x e, C x e ≠ 0 → okE e) {x : ByteArray} {e : Ed} (he : okE e) {d : Int} (y : ByteArray) (f : Ed) (h : updC C x e d y f ≠ 0) : okE f := by
  unfold updC at h
  split at h
  · next q => rw [q.2]; exact he
  · exact hk y f h
/-- The map of unit x is there (block b): another number at an edge, none of the map's sizes lost. -/
theorem En.put {w w' : World} {eb : Nat} {fb : ByteArray → Option Nat} {C : ByteArray → Ed → Int} {c : Nat} (h : En w eb fb C c) {x : ByteArray} {b : Nat} (hx : fb x = some b) {e : EK} {d : Int} {n : Nat} (hn : n ≤ c + 1) (hn0 : n ≠ 0) (h0 : 0 ≤ C x e.1 + d) (h1 : d ≤ 1) (m : Mv (fun k => k = b) w w') (hM : ME w' b n (cfS (updC C x e.1 d x))) : En w' eb fb (updC C x e.1 d) (c + 1) := by
  obtain ⟨a, a1, q⟩ := h.all
  refine ⟨⟨a, by omega, q.mv m (fun e => h.ne x b hx e.symm)⟩, fun y b2 hy => ?_, fun y hy f => ?_, h.inj, h.ne, upd_bd h.bd h0 h1, upd_ok h.ok e.2⟩
  · by_cases e2 : y = x
    · subst e2
      rw [hx] at hy
      cases hy
      exact ⟨n, hn, hn0, hM⟩
    · obtain ⟨n2, q1, q2, q3⟩ := h.sub y b2 hy
      refine ⟨n2, by omega, q2, (q3.mv m (fun e => e2 (h.inj y x b2 hy (e ▸ hx)))).cong (fun f => ?_)⟩
      unfold cfS
      rw [upd_other e2]
  · have : y ≠ x := fun e => by rw [e, hx] at hy; cases hy
    rw [upd_other this]
    exact h.non y hy f
/-- The map of unit x is made anew, at block b. -/
theorem En.make {w w1 w2 : World} {eb : Nat} {fb : ByteArray → Option Nat} {C : ByteArray → Ed → Int} {c : Nat} (h : En w eb fb C c) {x : ByteArray} {b : Nat} (hx : fb x = none) {e : EK} {m : Nat} (hm : m ≤ c + 1) (hb : w.heap.size ≤ b) (m1 : Mv (fun k => k = eb) w w1) (hA : MS w1 eb m (fun y => if y = x then some (.map (some b)) else (fb y).map fun b => .map (some b))) (m2 : Mv (fun k => k = b) w1 w2)
    (hM : ME w2 b 1 (cfS (updC C x e.1 1 x))) : En w2 eb (fun y => if y = x then some b else fb y) (updC C x e.1 1) (c + 1) := by
  have hlt : ∀ k, hasE eb fb k → k < w.heap.size := fun k hk => h.lt hk
  refine ⟨⟨m, hm, (hA.mv m2 (fun e => by have := hlt eb (.inl rfl); omega)).cong fun y => ?_⟩, fun y b2 hy => ?_, fun y hy f => ?_, fun y z b2 hy hz => ?_, fun y b2 hy => ?_, upd_bd h.bd (by have := (h.bd x e.1).1; omega) (by omega), upd_ok h.ok e.2⟩
  · split <;> rfl
  · by_cases e2 : y = x
    · subst e2
      simp at hy
      subst hy
      exact ⟨1, by omega, by omega, hM⟩
    · simp [e2] at hy
      obtain ⟨n2, q1, q2, q3⟩ := h.sub y b2 hy
      have l2 := hlt b2 (.inr ⟨y, hy⟩)
      refine ⟨n2, by omega, q2, ((q3.mv m1 (h.ne y b2 hy)).mv m2 (by omega)).cong (fun f => ?_)⟩
      unfold cfS
      rw [upd_other e2]
  · have e2 : y ≠ x := fun e => by rw [if_pos e] at hy; cases hy
    rw [if_neg e2] at hy
    rw [upd_other e2]
    exact h.non y hy f
  · by_cases e2 : y = x
    · by_cases e3 : z = x
      · rw [e2, e3]
      · simp [e2] at hy; simp [e3] at hz; subst hy; have := hlt b (.inr ⟨z, hz⟩); omega
    · by_cases e3 : z = x
      · simp [e3] at hz; simp [e2] at hy; subst hz; have := hlt b (.inr ⟨y, hy⟩); omega
      · simp [e2] at hy; simp [e3] at hz; exact h.inj y z b2 hy hz
  · by_cases e2 : y = x
    · simp [e2] at hy; subst hy; have := hlt eb (.inl rfl); omega
    · simp [e2] at hy; exact h.ne y b2 hy
/-- The map of unit x goes: nothing is in it. -/
theorem En.gone {w w1 w2 : World} {eb : Nat} {fb : ByteArray → Option Nat} {C : ByteArray → Ed → Int} {c : Nat} (h : En w eb fb C c) {x : ByteArray} {b : Nat} (hx : fb x = some b) {e : EK} {d : Int} (h0 : 0 ≤ C x e.1 + d) (h1 : d ≤ 1) {m : Nat} (hm : m ≤ c + 1) (m1 : Mv (fun k => k = b) w w1) (hM : ME w1 b 0 (cfS (updC C x e.1 d x)))
    (m2 : Mv (fun k => k = eb) w1 w2) (hA : MS w2 eb m (fun y => if y = x then none else (fb y).map fun b => .map (some b))) : En w2 eb (fun y => if y = x then none else fb y) (updC C x e.1 d) (c + 1) := by
  refine ⟨⟨m, hm, hA.cong fun y => ?_⟩, fun y b2 hy => ?_, fun y hy f => ?_, fun y z b2 hy hz => ?_, fun y b2 hy => ?_, upd_bd h.bd h0 h1, upd_ok h.ok e.2⟩
  · split <;> rfl
  · by_cases e2 : y = x
    · simp [e2] at hy
    · simp [e2] at hy
      obtain ⟨n2, q1, q2, q3⟩ := h.sub y b2 hy
      refine ⟨n2, by omega, q2, ((q3.mv m1 (fun e => e2 (h.inj y x b2 hy (e ▸ hx)))).mv m2 (h.ne y b2 hy)).cong (fun f => ?_)⟩
      unfold cfS
      rw [upd_other e2]
  · by_cases e2 : y = x
    · subst e2
      by_cases hk : updC C y e.1 d y f = 0
      · exact hk
      · have hf := upd_ok h.ok e.2 y f hk
        have := hM.empty ⟨f, hf⟩
        unfold cfS at this
        simp [hk] at this
    · simp [e2] at hy
      rw [upd_other e2]
      exact h.non y hy f
  · by_cases e2 : y = x
    · simp [e2] at hy
    · by_cases e3 : z = x
      · simp [e3] at hz
      · simp [e2] at hy; simp [e3] at hz; exact h.inj y z b2 hy hz
  · by_cases e2 : y = x
    · simp [e2] at hy
    · simp [e2] at hy; exact h.ne y b2 hy
end Go.Proofs.YtcfclknfnadgcaaDoor
