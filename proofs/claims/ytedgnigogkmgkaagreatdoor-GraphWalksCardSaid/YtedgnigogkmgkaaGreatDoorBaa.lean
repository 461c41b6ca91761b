import Derived.Test.YtedgnigogkmgkaaGreatDoorGM
import Derived.Test.YtedgnigogkmgkaaGreatDoorRZ2
/- An entry of a map that is made or found, and what is stored behind it. -/
namespace Go.Proofs.YtedgnigogkmgkaaGreatDoor
open Go.RowKit Go.Shelf Go.Lib Go.WideElems Go.ChangeMaps
set_option maxRecDepth 1000000 in
theorem klawE : Go.WideMaps.KeyLaw Tryz.prog 156 := deep_law_laid laidOutE (m := 2) (by decide) rowEd deepEd wideEd
theorem block_twice (w : World) (b : Nat) (X Y : Obj) : setBlock (setBlock w b X) b Y = setBlock w b Y := by
  unfold setBlock
  simp
theorem block_same {w : World} {b : Nat} {X : Obj} (h : w.heap[b]? = some X) : setBlock w b X = w := by
  unfold setBlock
  obtain ⟨h1, h2⟩ := Array.getElem?_eq_some_iff.1 h
  have : w.heap.setIfInBounds b X = w.heap := by
    rw [← h2]
    refine Array.ext (by simp) fun i a1 a2 => ?_
    rw [Array.getElem_setIfInBounds]
    split
    · next e => subst e; rfl
    · rfl
  rw [this]
theorem Mv.block1 (w : World) (b : Nat) (X : Obj) : Mv (fun k => k = b) w (setBlock w b X) := by
  refine ⟨rfl, rfl, rfl, by unfold setBlock; simp, fun k _ hk => ?_⟩
  unfold setBlock
  rw [Array.getElem?_setIfInBounds_ne (fun e => hk e.symm)]
theorem ME.entry {w : World} {b m : Nat} {f : EK → Option Value} (h : ME w b m f) {t et : TypeId} (ht : Tryz.prog.underlying t = some (.map 156 et)) {z : Value} (hz : ∀ u : World, (zeroValue et).run Tryz.prog u = .ok z u) (a : EK) (hm : m < maxLen) :
    ∃ W1 st, (Instr.mapEntry t (.map (some b)) (edV a.1)).run Tryz.prog w = .ok (.tuple #[(f a).getD z, .int .i64 (st : Nat)]) W1 ∧ Mv (fun k => k = b) w W1 ∧ (Instr.lookup t (.map (some b)) (edV a.1) false).run Tryz.prog W1 = .ok ((f a).getD z) W1 ∧
      ∀ v, ∃ W2, (Instr.entryStore t (.map (some b)) (.int .i64 (st : Nat)) v).run Tryz.prog W1 = .ok () W2 ∧ ME W2 b (upN (f a).isSome m) (fun x => if x = a then some v else f x) ∧ Mv (fun k => k = b) w W2 := by
  have hl := h.look1 lawE ht (hz w) (a := a) (keyE a)
  have hst := fun v => h.store ht (a := a) (keyE a) v hm
  obtain ⟨D, ⟨es, c, hb, F, hs, hD⟩, h2, h3, _⟩ := h
  obtain ⟨v0, st, es1, c1, hE, hcase, hS⟩ := entry_then_store klawE ht hz hb F (keyE a)
  have hlt := (Array.getElem?_eq_some_iff.1 hb).1
  have hb1 : (setBlock w b (.map es1 c1)).heap[b]? = some (.map es1 c1) := by
    unfold setBlock
    simp [hlt]
  have key : v0 = (f a).getD z ∧ (Instr.lookup t (.map (some b)) (edV a.1) false).run Tryz.prog (setBlock w b (.map es1 c1)) = .ok ((f a).getD z) (setBlock w b (.map es1 c1)) := by
    rcases klawE.find w (keyE a) es.toList F.keys with ⟨q1, q2⟩ | ⟨j, e0, q1, q2, q3⟩
    · have e1 : z = (f a).getD z := by
        simp [Instr.lookup, run_underlying ht, MapKept.run_getObj_map hb, klawE.check w _ (keyE a), q1, hz, Result.andThen] at hl
        exact hl
      have hE2 := hE
      simp [Instr.mapEntry, run_underlying ht, MapKept.run_getObj_map hb, klawE.check w false (keyE a), q1, hz, MapKept.run_setObj_map _ hb, Result.andThen, setBlock] at hE2
      obtain ⟨⟨hv, _⟩, hheap⟩ := hE2
      have hW : setBlock w b (.map es1 c1) = setBlock w b (.map (es.push ⟨edV a.1, z, c⟩) (c + 1)) := by unfold setBlock; rw [hheap]
      have hb2 : (setBlock w b (.map (es.push ⟨edV a.1, z, c⟩) (c + 1))).heap[b]? = some (.map (es.push ⟨edV a.1, z, c⟩) (c + 1)) := by
        unfold setBlock
        simp [hlt]
      refine ⟨by rw [← hv, ← e1], ?_⟩
      rw [hW, ← e1]
      generalize setBlock w b (.map (es.push ⟨edV a.1, z, c⟩) (c + 1)) = W at hb2 ⊢
      rcases klawE.find W (keyE a) (es.push ⟨edV a.1, z, c⟩).toList (fun x hx => by
        rw [Array.toList_push, List.mem_append] at hx
        rcases hx with hx | hx
        · exact F.keys x hx
        · simp at hx; subst hx; exact ⟨_, keyE a⟩) with ⟨p1, p2⟩ | ⟨j, e0, p1, p2, p3⟩
      · exact absurd rfl (p2 ⟨edV a.1, z, c⟩ (by simp))
      · have hm0 := List.mem_of_getElem? p2
        rw [Array.toList_push, List.mem_append] at hm0
        have hv0 : e0.val = z := by
          rcases hm0 with hm0 | hm0
          · exact absurd p3 (q2 _ hm0)
          · simp at hm0; subst hm0; rfl
        rw [Array.toList_push] at p1
        simp [Instr.lookup, run_underlying ht, MapKept.run_getObj_map hb2, klawE.check W _ (keyE a), p1, Result.andThen, hv0]
    · have hj : es[j]? = some e0 := by simpa using q2
      have e1 : e0.val = (f a).getD z := by
        simp [Instr.lookup, run_underlying ht, MapKept.run_getObj_map hb, klawE.check w _ (keyE a), q1, Result.andThen] at hl
        exact hl
      have hE2 := hE
      simp [Instr.mapEntry, run_underlying ht, MapKept.run_getObj_map hb, klawE.check w false (keyE a), q1, hj, q3, klawE.stays w (keyE a), MapKept.run_setObj_map _ hb, Result.andThen, setBlock] at hE2
      obtain ⟨⟨hv, _⟩, hheap⟩ := hE2
      have hkk : es.modify j (fun e => { e with key := e0.key }) = es := by
        apply Array.ext'
        rw [Array.toList_modify, modify_eq_set _ _ _ _ q2]
        exact set_self _ _ _ q2
      have hW : setBlock w b (.map es1 c1) = w := by
        have h5 := block_same hb
        unfold setBlock at h5 ⊢
        rw [← hheap]
        rw [q3] at hkk
        rw [hkk]; exact h5
      refine ⟨by rw [← hv, ← e1], ?_⟩
      rw [hW]
      exact hl
  refine ⟨_, st, by rw [key.1] at hE; exact hE, Mv.block1 _ _ _, key.2, fun v => ?_⟩
  obtain ⟨es2, c2, r1, r2⟩ := hS _ v hb1
  obtain ⟨W2, r3, r4, r5⟩ := hst v
  rw [r2] at r3
  injection r3 with _ r3
  rw [block_twice, r3] at r1
  exact ⟨W2, r1, r4, r5⟩
end Go.Proofs.YtedgnigogkmgkaaGreatDoor
/- Edges by their ends, in memory. -/
namespace Go.Proofs.YtedgnigogkmgkaaGreatDoor
open Go.RowKit Go.Shelf Go.Lib
/-- What a map of edges tells of their numbers. -/
def cfS (C : Ed → Int) (e : EK) : Option Value := if C e.1 = 0 then none else some (.int .i64 (C e.1))
/-- Edges by a unit at one end: block eb the map, fb the blocks of its maps. -/
structure En (w : World) (eb : Nat) (fb : ByteArray → Option Nat) (C : ByteArray → Ed → Int) (c : Nat) : Prop where
  all : ∃ m, m ≤ c ∧ MS w eb m fun x => (fb x).map fun b => .map (some b)
  sub : ∀ x b, fb x = some b → ∃ n, n ≤ c ∧ n ≠ 0 ∧ ME w b n (cfS (C x))
  non : ∀ x, fb x = none → ∀ e, C x e = 0
  inj : ∀ x y b, fb x = some b → fb y = some b → x = y
  ne : ∀ x b, fb x = some b → b ≠ eb
  bd : ∀ x e, 0 ≤ C x e ∧ C x e ≤ c
  ok : ∀ x e, C x e ≠ 0 → okE e
def hasE (eb : Nat) (fb : ByteArray → Option Nat) (k : Nat) : Prop := k = eb ∨ ∃ x, fb x = some k
theorem En.lt {w : World} {eb : Nat} {fb : ByteArray → Option Nat} {C : ByteArray → Ed → Int} {c : Nat} (h : En w eb fb C c) {k : Nat} (hk : hasE eb fb k) : k < w.heap.size := by
  rcases hk with rfl | ⟨x, hx⟩
  · obtain ⟨m, _, q⟩ := h.all; exact q.lt
  · obtain ⟨n, _, _, q⟩ := h.sub x k hx; exact q.lt
theorem En.mv {w w' : World} {eb : Nat} {fb : ByteArray → Option Nat} {C : ByteArray → Ed → Int} {c : Nat} {E : Nat → Prop} (h : En w eb fb C c) (m : Mv E w w') (hE : ∀ k, hasE eb fb k → ¬ E k) : En w' eb fb C c := by
  obtain ⟨n, a, q⟩ := h.all
  refine ⟨⟨n, a, q.mv m (hE _ (.inl rfl))⟩, fun x b hx => ?_, h.non, h.inj, h.ne, h.bd, h.ok⟩
  obtain ⟨n, a, a2, q⟩ := h.sub x b hx
  exact ⟨n, a, a2, q.mv m (hE _ (.inr ⟨x, hx⟩))⟩
theorem En.below {w w' : World} {eb : Nat} {fb : ByteArray → Option Nat} {C : ByteArray → Ed → Int} {c : Nat} (h : En w eb fb C c) (b : Below w.heap.size w w') : En w' eb fb C c := h.mv (E := fun _ => False) (Mv.below b) (fun _ _ h => h)
theorem En.cong {w : World} {eb : Nat} {fb : ByteArray → Option Nat} {C D : ByteArray → Ed → Int} {c : Nat} (h : En w eb fb C c) (hD : ∀ x e, D x e = C x e) : En w eb fb D c := by
  have : D = C := funext fun x => funext fun e => hD x e
  rw [this]; exact h
theorem En.up {w : World} {eb : Nat} {fb : ByteArray → Option Nat} {C : ByteArray → Ed → Int} {c d : Nat} (h : En w eb fb C c) (hd : c ≤ d) : En w eb fb C d := by
  obtain ⟨n, a, q⟩ := h.all
  refine ⟨⟨n, by omega, q⟩, fun x b hx => ?_, h.non, h.inj, h.ne, fun x e => ⟨(h.bd x e).1, by have := (h.bd x e).2; omega⟩, h.ok⟩
  obtain ⟨n, a, a2, q⟩ := h.sub x b hx
  exact ⟨n, by omega, a2, q⟩
def updC (C : ByteArray → Ed → Int) (x : ByteArray) (e : Ed) (d : Int) : ByteArray → Ed → Int := fun y f => if y = x ∧ f = e then C y f + d else C y f
/-- From edges to edges. -/
structure EnGo (w : World) (eb : Nat) (fb : ByteArray → Option Nat) (w' : World) (fb' : ByteArray → Option Nat) : Prop where
  mv : Mv (hasE eb fb) w w'
  gr : ∀ k, hasE eb fb' k → hasE eb fb k ∨ w.heap.size ≤ k
/-- What is stored at an edge, in the words of the maps. -/
theorem cfS_upd {C : ByteArray → Ed → Int} {x : ByteArray} {e : EK} {d : Int} (hn : C x e.1 + d ≠ 0) (f : EK) : cfS (updC C x e.1 d x) f = if f = e then some (.int .i64 (C x e.1 + d)) else cfS (C x) f := by
  unfold cfS updC
  by_cases q : f = e
  · subst q; simp [hn]
  · have : ¬ f.1 = e.1 := fun h => q (Subtype.ext h)
    simp [q, this]
theorem cfS_zero {C : ByteArray → Ed → Int} {x : ByteArray} {e : EK} {d : Int} (hn : C x e.1 + d = 0) (f : EK) : cfS (updC C x e.1 d x) f = if f = e then none else cfS (C x) f := by
  unfold cfS updC
  by_cases q : f = e
  · subst q; simp [hn]
  · have : ¬ f.1 = e.1 := fun h => q (Subtype.ext h)
    simp [q, this]
theorem upd_other {C : ByteArray → Ed → Int} {x y : ByteArray} {e : Ed} {d : Int} (h : y ≠ x) (f : Ed) : updC C x e d y f = C y f := by
  unfold updC; rw [if_neg (fun q => h q.1)]
theorem upd_bd {C : ByteArray → Ed → Int} {c : Nat} (hb : ∀ x e, 0 ≤ C x e ∧ C x e ≤ c) {x : ByteArray} {e : Ed} {d : Int} (h0 : 0 ≤ C x e + d) (h1 : d ≤ 1) (y : ByteArray) (f : Ed) : 0 ≤ updC C x e d y f ∧ updC C x e d y f ≤ ((c + 1 : Nat) : Int) := by
  unfold updC
  have := hb y f
  split
  · next q => obtain ⟨rfl, rfl⟩ := q; omega
  · omega
theorem upd_ok {C : ByteArray → Ed → Int} (hk : ∀ x e, C x e ≠ 0 → okE e) {x : ByteArray} {e : Ed} (he : okE e) {d : Int} (y : ByteArray) (f : Ed) (h : updC C x e d y f ≠ 0) : okE f := by
  unfold updC at h
  split at h
  · next q => rw [q.2]; exact he
  · exact hk y f h
/-- The map of unit x is there (block b): another number at an edge, none of the map's sizes lost. -/
theorem En.put {w w' : World} {eb : Nat} {fb : ByteArray → Option Nat} {C : ByteArray → Ed → Int} {c : Nat} (h : En w eb fb C c) {x : ByteArray} {b : Nat} (hx : fb x = some b) {e : EK} {d : Int} {n : Nat} (hn : n ≤ c + 1) (hn0 : n ≠ 0) (h0 : 0 ≤ C x e.1 + d) (h1 : d ≤ 1) (m : Mv (fun k => k = b) w w') (hM : ME w' b n (cfS (updC C x e.1 d x))) : En w' eb fb (updC C x e.1 d) (c + 1) := by
  obtain ⟨a, a1, q⟩ := h.all
  refine ⟨⟨a, by omega, q.mv m (fun e => h.ne x b hx e.symm)⟩, fun y b2 hy => ?_, fun y hy f => ?_, h.inj, h.ne, upd_bd h.bd h0 h1, upd_ok h.ok e.2⟩
  · by_cases e2 : y = x
    · subst e2
      rw [hx] at hy
      cases hy
      exact ⟨n, hn, hn0, hM⟩
    · obtain ⟨n2, q1, q2, q3⟩ := h.sub y b2 hy
      refine ⟨n2, by omega, q2, (q3.mv m (fun e => e2 (h.inj y x b2 hy (e ▸ hx)))).cong (fun f => ?_)⟩
      unfold cfS
      rw [upd_other e2]
  · have : y ≠ x := fun e => by rw [e, hx] at hy; cases hy
    rw [upd_other this]
    exact h.non y hy f
/-- The map of unit x is made anew, at block b. -/
theorem En.make {w w1 w2 : World} {eb : Nat} {fb : ByteArray → Option Nat} {C : ByteArray → Ed → Int} {c : Nat} (h : En w eb fb C c) {x : ByteArray} {b : Nat} (hx : fb x = none) {e : EK} {m : Nat} (hm : m ≤ c + 1) (hb : w.heap.size ≤ b) (m1 : Mv (fun k => k = eb) w w1) (hA : MS w1 eb m (fun y => if y = x then some (.map (some b)) else (fb y).map fun b => .map (some b))) (m2 : Mv (fun k => k = b) w1 w2)
    (hM : ME w2 b 1 (cfS (updC C x e.1 1 x))) : En w2 eb (fun y => if y = x then some b else fb y) (updC C x e.1 1) (c + 1) := by
  have hlt : ∀ k, hasE eb fb k → k < w.heap.size := fun k hk => h.lt hk
  refine ⟨⟨m, hm, (hA.mv m2 (fun e => by have := hlt eb (.inl rfl); omega)).cong fun y => ?_⟩, fun y b2 hy => ?_, fun y hy f => ?_, fun y z b2 hy hz => ?_, fun y b2 hy => ?_, upd_bd h.bd (by have := (h.bd x e.1).1; omega) (by omega), upd_ok h.ok e.2⟩
  · split <;> rfl
  · by_cases e2 : y = x
    · subst e2
      simp at hy
      subst hy
      exact ⟨1, by omega, by omega, hM⟩
    · simp [e2] at hy
      obtain ⟨n2, q1, q2, q3⟩ := h.sub y b2 hy
      have l2 := hlt b2 (.inr ⟨y, hy⟩)
      refine ⟨n2, by omega, q2, ((q3.mv m1 (h.ne y b2 hy)).mv m2 (by omega)).cong (fun f => ?_)⟩
      unfold cfS
      rw [upd_other e2]
  · have e2 : y ≠ x := fun e => by rw [if_pos e] at hy; cases hy
    rw [if_neg e2] at hy
    rw [upd_other e2]
    exact h.non y hy f
  · by_cases e2 : y = x
    · by_cases e3 : z = x
      · rw [e2, e3]
      · simp [e2] at hy; simp [e3] at hz; subst hy; have := hlt b (.inr ⟨z, hz⟩); omega
    · by_cases e3 : z = x
      · simp [e3] at hz; simp [e2] at hy; subst hz; have := hlt b (.inr ⟨y, hy⟩); omega
      · simp [e2] at hy; simp [e3] at hz; exact h.inj y z b2 hy hz
  · by_cases e2 : y = x
    · simp [e2] at hy; subst hy; have := hlt eb (.inl rfl); omega
    · simp [e2] at hy; exact h.ne y b2 hy
/-- The map of unit x goes: nothing is in it. -/
theorem En.gone {w w1 w2 : World} {eb : Nat} {fb : ByteArray → Option Nat} {C : ByteArray → Ed → Int} {c : Nat} (h : En w eb fb C c) {x : ByteArray} {b : Nat} (hx : fb x = some b) {e : EK} {d : Int} (h0 : 0 ≤ C x e.1 + d) (h1 : d ≤ 1) {m : Nat} (hm : m ≤ c + 1) (m1 : Mv (fun k => k = b) w w1) (hM : ME w1 b 0 (cfS (updC C x e.1 d x)))
    (m2 : Mv (fun k => k = eb) w1 w2) (hA : MS w2 eb m (fun y => if y = x then none else (fb y).map fun b => .map (some b))) : En w2 eb (fun y => if y = x then none else fb y) (updC C x e.1 d) (c + 1) := by
  refine ⟨⟨m, hm, hA.cong fun y => ?_⟩, fun y b2 hy => ?_, fun y hy f => ?_, fun y z b2 hy hz => ?_, fun y b2 hy => ?_, upd_bd h.bd h0 h1, upd_ok h.ok e.2⟩
  · split <;> rfl
  · by_cases e2 : y = x
    · simp [e2] at hy
    · simp [e2] at hy
      obtain ⟨n2, q1, q2, q3⟩ := h.sub y b2 hy
      refine ⟨n2, by omega, q2, ((q3.mv m1 (fun e => e2 (h.inj y x b2 hy (e ▸ hx)))).mv m2 (h.ne y b2 hy)).cong (fun f => ?_)⟩
      unfold cfS
      rw [upd_other e2]
  · by_cases e2 : y = x
    · subst e2
      by_cases hk : updC C y e.1 d y f = 0
      · exact hk
      · have hf := upd_ok h.ok e.2 y f hk
        have := hM.empty ⟨f, hf⟩
        unfold cfS at this
        simp [hk] at this
    · simp [e2] at hy
      rw [upd_other e2]
      exact h.non y hy f
  · by_cases e2 : y = x
    · simp [e2] at hy
    · by_cases e3 : z = x
      · simp [e3] at hz
      · simp [e2] at hy; simp [e3] at hz; exact h.inj y z b2 hy hz
  · by_cases e2 : y = x
    · simp [e2] at hy
    · simp [e2] at hy; exact h.ne y b2 hy
end Go.Proofs.YtedgnigogkmgkaaGreatDoor
/- Contracts of (graph.ends).count: an edge is told of once more, or once less. -/
namespace Go.Proofs.YtedgnigogkmgkaaGreatDoor
open Go.RowKit Go.Shelf Go.Lib
theorem zeroI (w : World) : (zeroValue 3).run Tryz.prog w = .ok (.int .i64 0) w := by kernel_rfl
theorem zeroMe (w : World) : (zeroValue 154).run Tryz.prog w = .ok (.map none) w := by kernel_rfl
theorem undEn : Tryz.prog.underlying 103 = some (.map 9 154) := Tryz.underlying103
theorem undMe : Tryz.prog.underlying 154 = some (.map 156 3) := Tryz.underlying154
theorem cfS_get (C : Ed → Int) (e : EK) : (cfS C e).getD (.int .i64 0) = .int .i64 (C e.1) := by
  unfold cfS
  split
  · next h => rw [h]; rfl
  · rfl
theorem cfS_some (C : Ed → Int) (e : EK) : (cfS C e).isSome = decide (C e.1 ≠ 0) := by
  unfold cfS
  split
  · next h => simp [h]
  · next h => simp [h]
theorem i64w (x : Int) (h : 0 ≤ x) (h' : x ≤ 9223372036854775807) : IntKind.i64.wrap x = x := by
  show (if (true && decide (x % 18446744073709551616 ≥ 9223372036854775808)) = true then x % 18446744073709551616 - 18446744073709551616 else x % 18446744073709551616) = x
  have e : x % 18446744073709551616 = x := Int.emod_eq_of_lt h (by omega)
  rw [e]
  simp
  omega
/-- The edge in a block of its own. -/
structure Bx (k : Int) (a b : ByteArray) (n : Nat) (w : World) : Prop where
  c0 : w.cell? ⟨n, 0, none⟩ = some (.int .i64 k)
  c1 : w.cell? ⟨n, 1, none⟩ = some (.string a)
  c2 : w.cell? ⟨n, 2, none⟩ = some (.string b)
theorem Bx.mk' {k : Int} {a b : ByteArray} (w : World) (t : TypeId) : Bx k a b w.heap.size (w.alloc (.cells #[.int .i64 k, .string a, .string b] t)) := ⟨cell_at rfl rfl, cell_at rfl rfl, cell_at rfl rfl⟩
theorem Bx.mv {k : Int} {a b : ByteArray} {n : Nat} {w w' : World} {E : Nat → Prop} (h : Bx k a b n w) (m : Mv E w w') (hE : ¬ E n) : Bx k a b n w' := ⟨m.cell (a := ⟨n, 0, none⟩) hE h.c0, m.cell (a := ⟨n, 1, none⟩) hE h.c1, m.cell (a := ⟨n, 2, none⟩) hE h.c2⟩
set_option maxRecDepth 100000 in
set_option maxHeartbeats 4000000 in
theorem ecount_new {w : World} {eb : Nat} {fb : ByteArray → Option Nat} {C : ByteArray → Ed → Int} {c : Nat} (h : En w eb fb C c) (x : ByteArray) (k : Int) (a b : ByteArray) (he : okE (k, a, b)) (hf : fb x = none) (hx : x.size ≤ 1000) (hc : c ≤ 900000) :
    Calls Tryz.prog 102 #[.map (some eb), .string x, .agg #[.int .i64 k, .string a, .string b], .int .i64 1] w fun r w' => r = .returned (.tuple #[]) ∧ ∃ fb', En w' eb fb' (updC C x (k, a, b) 1) (c + 1) ∧ EnGo w eb fb w' fb' := by
  obtain ⟨m, hm, hA⟩ := h.all
  obtain ⟨E, hE⟩ : ∃ E : EK, E = ⟨(k, a, b), he⟩ := ⟨_, rfl⟩
  have hEv : edV E.1 = .agg #[.int .i64 k, .string a, .string b] := by rw [hE]; rfl
  have hz : C x (k, a, b) = 0 := h.non x hf _
  obtain ⟨W0, hW0⟩ : ∃ W0, w.alloc (.cells #[.int .i64 k, .string a, .string b] 156) = W0 := ⟨_, rfl⟩
  have b0 : Below w.heap.size w W0 := by rw [← hW0]; exact (Below.refl _ _).alloc (Nat.le_refl _) _
  have s0 : W0.heap.size = w.heap.size + 1 := by rw [← hW0]; simp
  have x0 : Bx k a b w.heap.size W0 := by rw [← hW0]; exact Bx.mk' _ _
  have hA0 := hA.mv (Mv.below (E := fun _ => False) b0) (fun h => h)
  have hlk := hA0.look lawS undEn (zeroMe W0) (a := x) (keyS hx)
  rw [hf] at hlk
  simp only [Option.map_none, Option.getD_none, Option.isSome_none] at hlk
  obtain ⟨W1, hW1⟩ : ∃ W1, W0.alloc (.map #[] 0) = W1 := ⟨_, rfl⟩
  have hmk : (Instr.makeMap 154 none).run Tryz.prog W0 = .ok (.map (some (w.heap.size + 1))) W1 := by
    have := run_makeMap (P := Tryz.prog) 154 W0
    rw [s0, hW1] at this
    exact this
  have b1 : Below W0.heap.size W0 W1 := by rw [← hW1]; exact (Below.refl _ _).alloc (Nat.le_refl _) _
  have s1 : W1.heap.size = w.heap.size + 2 := by rw [← hW1]; simp [s0]
  have x1 := x0.mv (Mv.below (E := fun _ => False) b1) (fun h => h)
  have hM1 : ME W1 (w.heap.size + 1) 0 fun _ => none := by rw [← hW1, ← s0]; exact ME.made _
  obtain ⟨W2, hup, hA2, mv2⟩ := (hA0.mv (Mv.below (E := fun _ => False) b1) (fun h => h)).store lawS (fun _ _ => eS_inj) klS undEn (a := x) (keyS hx) (.map (some (w.heap.size + 1))) (by unfold maxLen; omega)
  have leb := h.lt (.inl rfl)
  have hM2 := hM1.mv mv2 (by omega)
  have x2 := x1.mv mv2 (by show ¬ w.heap.size = eb; omega)
  have hM2d := hM2.mv (Mv.drew (fun _ => False) W2) (fun h => h)
  have x2d := x2.mv (Mv.drew (fun _ => False) W2) (fun h => h)
  obtain ⟨W3, st, hen, mv3, hlk3, hst⟩ := hM2d.entry undMe zeroI E (by unfold maxLen; omega)
  have hlk2 := hM2d.look1 lawE undMe (zeroI _) (a := E) (keyE E)
  obtain ⟨W4, hst4, hM4, mv4⟩ := hst (.int .i64 1)
  rw [hEv] at hen hlk3 hlk2
  simp only [Option.getD_none] at hen hlk3 hlk2
  have x3 := x2d.mv mv3 (by show ¬ w.heap.size = w.heap.size + 1; omega)
  have x4 := x2d.mv mv4 (by show ¬ w.heap.size = w.heap.size + 1; omega)
  have hM4' : ME W4 (w.heap.size + 1) 1 (cfS (updC C x (k, a, b) 1 x)) := hM4.cong (fun f => by
    have := cfS_upd (C := C) (x := x) (e := E) (d := 1) (by rw [hE, hz]; decide) f
    rw [hE] at this ⊢
    rw [this, hz]
    split
    · rfl
    · unfold cfS; rw [h.non x hf]; rfl)
  have hlk4 := hM4'.look1 lawE undMe (zeroI _) (a := E) (keyE E)
  rw [cfS_get, hEv] at hlk4
  have hv4 : updC C x (k, a, b) 1 x E.1 = 1 := by rw [hE]; unfold updC; simp [hz]
  rw [hv4] at hlk4
  have hln4 := hM4'.len undMe 3
  have fin : Hid (∃ fb', En W4 eb fb' (updC C x (k, a, b) 1) (c + 1) ∧ EnGo w eb fb W4 fb') := by
    have mvA : Mv (fun k => k = eb) w W2 := ((Mv.below b0).trans' (Mv.below b1)).trans' mv2
    have mvB : Mv (fun k => k = w.heap.size + 1) W2 W4 := (Mv.drew _ _).trans' mv4
    have := h.make (x := x) (b := w.heap.size + 1) (e := E) (m := upN ((fb x).map fun b => Value.map (some b)).isSome m) hf (by unfold upN; split <;> omega) (by omega) mvA hA2 mvB (by rw [hE]; exact hM4')
    rw [hE] at this
    refine ⟨_, this, ⟨(mvA.mono (fun k _ e => .inl e)).trans (E' := fun k => k = w.heap.size + 1) (fun k e => .inr (by omega)) mvB, fun q hq => ?_⟩⟩
    rcases hq with rfl | ⟨y, hy⟩
    · exact .inl (.inl rfl)
    · by_cases e2 : y = x
      · simp [e2] at hy; exact .inr (by omega)
      · simp [e2] at hy; exact .inl (.inr ⟨y, hy⟩)
  obtain ⟨p0, p1, p2⟩ := x2
  obtain ⟨r0, r1, r2⟩ := x4
  have hwr : IntKind.i64.wrap 1 = 1 := by decide
  have hS : (W2.drew.cell? ⟨w.heap.size, 0, none⟩ = some (.int .i64 k) ∧ W2.drew.cell? ⟨w.heap.size, 1, none⟩ = some (.string a) ∧ W2.drew.cell? ⟨w.heap.size, 2, none⟩ = some (.string b)) ∧ (Instr.lookup 154 (.map (some (w.heap.size + 1))) (.agg #[.int .i64 k, .string a, .string b]) false).run Tryz.prog W2.drew = .ok (.int .i64 0) W2.drew := ⟨⟨p0, p1, p2⟩, hlk2⟩
  have hS3 : (W3.cell? ⟨w.heap.size, 0, none⟩ = some (.int .i64 k) ∧ W3.cell? ⟨w.heap.size, 1, none⟩ = some (.string a) ∧ W3.cell? ⟨w.heap.size, 2, none⟩ = some (.string b)) ∧ (Instr.lookup 154 (.map (some (w.heap.size + 1))) (.agg #[.int .i64 k, .string a, .string b]) false).run Tryz.prog W3 = .ok (.int .i64 0) W3 := ⟨⟨x3.c0, x3.c1, x3.c2⟩, hlk3⟩
  clear h hf hA hA0 hEv hM1 hM2 hM2d hM4 hM4' hA2 mv2 mv3 mv4 hst x0 x1 x3 x2d b0 b1 hlk2 hlk3 hv4 hz hm
  go_enter Tryz.func102, Tryz.ntmps102
  go_wp2_with (first | rw [hW0] | (rw [s0]; rw [hW1]) | rw [hW1])
  refine Zs.region (S := fun y => (y.cell? ⟨w.heap.size, 0, none⟩ = some (.int .i64 k) ∧ y.cell? ⟨w.heap.size, 1, none⟩ = some (.string a) ∧ y.cell? ⟨w.heap.size, 2, none⟩ = some (.string b)) ∧ (Instr.lookup 154 (.map (some (w.heap.size + 1))) (.agg #[.int .i64 k, .string a, .string b]) false).run Tryz.prog y = .ok (.int .i64 0) y) 7 (by kernel_rfl) ?_
  refine Zs.pure (i := 0) (oi := ⟨some 22, _, _, _, _, _⟩) (v := ?v0) rfl (by kernel_rfl) (by kernel_rfl) (by kernel_rfl) (by decide) (fun _ _ _ h => h) (Or.inl ⟨by rfl, ?hy0⟩) hS ?_
  case hy0 => (intro w hSw; (try dsimp only at hSw); go_simp; try with_reducible rfl)
  simp only [Act.put, List.setIfInBounds_toArray, List.set_cons_zero, List.set_cons_succ]
  refine Zs.take (i := 1) (oi := ⟨some 23, _, _, _, _, _⟩) (v := ?v1) rfl (by kernel_rfl) (by kernel_rfl) (by kernel_rfl) (by decide) (by kernel_rfl) (by kernel_rfl) (fun _ _ _ h => h) (Or.inl ⟨by rfl, ?hy1⟩) hS ?_
  case hy1 => (intro w hSw; (try dsimp only at hSw); go_simp; try with_reducible rfl)
  simp only [Act.put, List.setIfInBounds_toArray, List.set_cons_zero, List.set_cons_succ]
  refine Zs.take (i := 2) (oi := ⟨some 24, _, _, _, _, _⟩) (v := ?v2) rfl (by kernel_rfl) (by kernel_rfl) (by kernel_rfl) (by decide) (by kernel_rfl) (by kernel_rfl) (fun _ _ _ h => h) (Or.inl ⟨by rfl, ?hy2⟩) hS ?_
  case hy2 => (intro w hSw; (try dsimp only at hSw); go_simp; try with_reducible rfl)
  simp only [Act.put, List.setIfInBounds_toArray, List.set_cons_zero, List.set_cons_succ]
  refine Zs.pure (i := 3) (oi := ⟨some 25, _, _, _, _, _⟩) (v := ?v3) rfl (by kernel_rfl) (by kernel_rfl) (by kernel_rfl) (by decide) (fun _ _ _ h => h) (Or.inl ⟨by rfl, ?hy3⟩) hS ?_
  case hy3 => (intro w hSw; (try dsimp only at hSw); go_simp; try with_reducible rfl)
  simp only [Act.put, List.setIfInBounds_toArray, List.set_cons_zero, List.set_cons_succ]
  refine Zs.pure (i := 4) (oi := ⟨some 26, _, _, _, _, _⟩) (v := ?v4) rfl (by kernel_rfl) (by kernel_rfl) (by kernel_rfl) (by decide) (fun _ _ _ h => h) (Or.inl ⟨by rfl, ?hy4⟩) hS ?_
  case hy4 => (intro w hSw; (try dsimp only at hSw); go_simp; try with_reducible rfl)
  simp only [Act.put, List.setIfInBounds_toArray, List.set_cons_zero, List.set_cons_succ]
  refine Zs.one (i := 5) (oi := ⟨some 27, _, _, _, _, _⟩) (by kernel_rfl) rfl (fun K hK => ?_)
  go_simp
  refine hK.out _ _ (fun _ => hS3) ?_
  clear hK K
  try simp only [Act.put, List.setIfInBounds_toArray, List.set_cons_zero, List.set_cons_succ]
  refine Zs.pure (i := 6) (oi := ⟨some 28, _, _, _, _, _⟩) (v := ?v6) rfl (by kernel_rfl) (by kernel_rfl) (by kernel_rfl) (by decide) (fun _ _ _ h => h) (Or.inl ⟨by rfl, ?hy6⟩) hS3 ?_
  case hy6 => (intro w hSw; (try dsimp only at hSw); go_simp; try with_reducible rfl)
  simp only [Act.put, List.setIfInBounds_toArray, List.set_cons_zero, List.set_cons_succ]
  refine Zs.one (i := 7) (oi := ⟨none, _, _, _, _, _⟩) (by kernel_rfl) rfl (fun K hK => ?_)
  go_simp
  refine hK.out _ _ (fun q => absurd q (by decide)) ?_
  clear hK K
  try simp only [Act.put, List.setIfInBounds_toArray, List.set_cons_zero, List.set_cons_succ]
  refine Zs.done (by kernel_rfl) ?_ _
  go_wp2_with fail
  refine bodyPost_end (v := .tuple #[]) (by simp [results, Tryz.results102, go_sem]) rfl ?_
  exact ⟨rfl, fin.out⟩
end Go.Proofs.YtedgnigogkmgkaaGreatDoor
/- Contracts of (graph.ends).count, continued. -/
namespace Go.Proofs.YtedgnigogkmgkaaGreatDoor
open Go.RowKit Go.Shelf Go.Lib
set_option maxRecDepth 100000 in
set_option maxHeartbeats 4000000 in
theorem ecount_more {w : World} {eb : Nat} {fb : ByteArray → Option Nat} {C : ByteArray → Ed → Int} {c : Nat} (h : En w eb fb C c) (x : ByteArray) (k : Int) (a b : ByteArray) (he : okE (k, a, b)) {bl : Nat} (hf : fb x = some bl) (hx : x.size ≤ 1000) (hc : c ≤ 900000) :
    Calls Tryz.prog 102 #[.map (some eb), .string x, .agg #[.int .i64 k, .string a, .string b], .int .i64 1] w fun r w' => r = .returned (.tuple #[]) ∧ ∃ fb', En w' eb fb' (updC C x (k, a, b) 1) (c + 1) ∧ EnGo w eb fb w' fb' := by
  obtain ⟨m, hm, hA⟩ := h.all
  obtain ⟨n, hn, hn0, hM⟩ := h.sub x bl hf
  obtain ⟨E, hE⟩ : ∃ E : EK, E = ⟨(k, a, b), he⟩ := ⟨_, rfl⟩
  have hEv : edV E.1 = .agg #[.int .i64 k, .string a, .string b] := by rw [hE]; rfl
  have hEe : E.1 = (k, a, b) := by rw [hE]
  have hqb := h.bd x (k, a, b)
  obtain ⟨q, hq⟩ : ∃ q, C x (k, a, b) = q := ⟨_, rfl⟩
  rw [hq] at hqb
  obtain ⟨W0, hW0⟩ : ∃ W0, w.alloc (.cells #[.int .i64 k, .string a, .string b] 156) = W0 := ⟨_, rfl⟩
  have b0 : Below w.heap.size w W0 := by rw [← hW0]; exact (Below.refl _ _).alloc (Nat.le_refl _) _
  have x0 : Bx k a b w.heap.size W0 := by rw [← hW0]; exact Bx.mk' _ _
  have lbl : bl < w.heap.size := h.lt (.inr ⟨x, hf⟩)
  have hA0 := hA.mv (Mv.below (E := fun _ => False) b0) (fun h => h)
  have hM0 := hM.mv (Mv.below (E := fun _ => False) b0) (fun h => h)
  have hlk := hA0.look lawS undEn (zeroMe W0) (a := x) (keyS hx)
  rw [hf] at hlk
  simp only [Option.map_some, Option.getD_some, Option.isSome_some] at hlk
  have hM2d := hM0.mv (Mv.drew (fun _ => False) W0) (fun h => h)
  have x2d := x0.mv (Mv.drew (fun _ => False) W0) (fun h => h)
  obtain ⟨W3, st, hen, mv3, hlk3, hst⟩ := hM2d.entry undMe zeroI E (by unfold maxLen; omega)
  have hlk2 := hM2d.look1 lawE undMe (zeroI _) (a := E) (keyE E)
  obtain ⟨W4, hst4, hM4, mv4⟩ := hst (.int .i64 (q + 1))
  rw [hEv] at hen hlk3 hlk2
  rw [cfS_get, hEe, hq] at hen hlk3 hlk2
  have x3 := x2d.mv mv3 (by show ¬ w.heap.size = bl; omega)
  have x4 := x2d.mv mv4 (by show ¬ w.heap.size = bl; omega)
  have hlk4 := hM4.look1 lawE undMe (zeroI _) (a := E) (keyE E)
  rw [if_pos rfl, hEv] at hlk4
  simp only [Option.getD_some] at hlk4
  obtain ⟨n4, hn4⟩ : ∃ n4, upN (cfS (C x) E).isSome n = n4 := ⟨_, rfl⟩
  have hn4b : n4 ≤ c + 1 ∧ n4 ≠ 0 := by rw [← hn4]; unfold upN; split <;> omega
  rw [hn4] at hM4
  have hln4 := hM4.len undMe 3
  have hM4' : ME W4 bl n4 (cfS (updC C x (k, a, b) 1 x)) := hM4.cong (fun f => by
    have := cfS_upd (C := C) (x := x) (e := E) (d := 1) (by rw [hEe, hq]; omega) f
    rw [hEe, hq] at this
    rw [this])
  have mvB : Mv (fun k => k = bl) w W4 := ((Mv.below b0).trans' (Mv.drew _ _)).trans' mv4
  have fin : Hid (∃ fb', En W4 eb fb' (updC C x (k, a, b) 1) (c + 1) ∧ EnGo w eb fb W4 fb') := by
    have := h.put (x := x) (b := bl) (e := E) (d := 1) (n := n4) hf hn4b.1 hn4b.2 (by rw [hEe, hq]; omega) (by omega) mvB (by rw [hEe]; exact hM4')
    rw [hEe] at this
    exact ⟨fb, this, ⟨mvB.mono (fun k _ e => .inr ⟨x, e ▸ hf⟩), fun _ h => .inl h⟩⟩
  have t1 : (q + 1 == 0) = false := by rw [beq_eq_false_iff_ne]; omega
  have t2 : ((n4 : Int) == 0) = false := by rw [beq_eq_false_iff_ne]; omega
  obtain ⟨p0, p1, p2⟩ := x0
  obtain ⟨r0, r1, r2⟩ := x4
  have hwr : IntKind.i64.wrap (q + 1) = q + 1 := by exact i64w _ (by omega) (by omega)
  have hS : (W0.drew.cell? ⟨w.heap.size, 0, none⟩ = some (.int .i64 k) ∧ W0.drew.cell? ⟨w.heap.size, 1, none⟩ = some (.string a) ∧ W0.drew.cell? ⟨w.heap.size, 2, none⟩ = some (.string b)) ∧ (Instr.lookup 154 (.map (some bl)) (.agg #[.int .i64 k, .string a, .string b]) false).run Tryz.prog W0.drew = .ok (.int .i64 q) W0.drew := ⟨⟨p0, p1, p2⟩, hlk2⟩
  have hS3 : (W3.cell? ⟨w.heap.size, 0, none⟩ = some (.int .i64 k) ∧ W3.cell? ⟨w.heap.size, 1, none⟩ = some (.string a) ∧ W3.cell? ⟨w.heap.size, 2, none⟩ = some (.string b)) ∧ (Instr.lookup 154 (.map (some bl)) (.agg #[.int .i64 k, .string a, .string b]) false).run Tryz.prog W3 = .ok (.int .i64 q) W3 := ⟨⟨x3.c0, x3.c1, x3.c2⟩, hlk3⟩
  clear h hf hA hA0 hM hM0 hM2d hM4 hEv hEe hq mv3 mv4 mvB hst x3 x2d b0 hlk2 hlk3 hm hn0 hE hM4' hn4 hn4b
  go_enter Tryz.func102, Tryz.ntmps102
  go_wp2_with (rw [hW0])
  refine Zs.region (S := fun y => (y.cell? ⟨w.heap.size, 0, none⟩ = some (.int .i64 k) ∧ y.cell? ⟨w.heap.size, 1, none⟩ = some (.string a) ∧ y.cell? ⟨w.heap.size, 2, none⟩ = some (.string b)) ∧ (Instr.lookup 154 (.map (some bl)) (.agg #[.int .i64 k, .string a, .string b]) false).run Tryz.prog y = .ok (.int .i64 q) y) 7 (by kernel_rfl) ?_
  refine Zs.pure (i := 0) (oi := ⟨some 22, _, _, _, _, _⟩) (v := ?v0) rfl (by kernel_rfl) (by kernel_rfl) (by kernel_rfl) (by decide) (fun _ _ _ h => h) (Or.inl ⟨by rfl, ?hy0⟩) hS ?_
  case hy0 => (intro w hSw; (try dsimp only at hSw); go_simp; try with_reducible rfl)
  simp only [Act.put, List.setIfInBounds_toArray, List.set_cons_zero, List.set_cons_succ]
  refine Zs.take (i := 1) (oi := ⟨some 23, _, _, _, _, _⟩) (v := ?v1) rfl (by kernel_rfl) (by kernel_rfl) (by kernel_rfl) (by decide) (by kernel_rfl) (by kernel_rfl) (fun _ _ _ h => h) (Or.inl ⟨by rfl, ?hy1⟩) hS ?_
  case hy1 => (intro w hSw; (try dsimp only at hSw); go_simp; try with_reducible rfl)
  simp only [Act.put, List.setIfInBounds_toArray, List.set_cons_zero, List.set_cons_succ]
  refine Zs.take (i := 2) (oi := ⟨some 24, _, _, _, _, _⟩) (v := ?v2) rfl (by kernel_rfl) (by kernel_rfl) (by kernel_rfl) (by decide) (by kernel_rfl) (by kernel_rfl) (fun _ _ _ h => h) (Or.inl ⟨by rfl, ?hy2⟩) hS ?_
  case hy2 => (intro w hSw; (try dsimp only at hSw); go_simp; try with_reducible rfl)
  simp only [Act.put, List.setIfInBounds_toArray, List.set_cons_zero, List.set_cons_succ]
  refine Zs.pure (i := 3) (oi := ⟨some 25, _, _, _, _, _⟩) (v := ?v3) rfl (by kernel_rfl) (by kernel_rfl) (by kernel_rfl) (by decide) (fun _ _ _ h => h) (Or.inl ⟨by rfl, ?hy3⟩) hS ?_
  case hy3 => (intro w hSw; (try dsimp only at hSw); go_simp; try with_reducible rfl)
  simp only [Act.put, List.setIfInBounds_toArray, List.set_cons_zero, List.set_cons_succ]
  refine Zs.pure (i := 4) (oi := ⟨some 26, _, _, _, _, _⟩) (v := ?v4) rfl (by kernel_rfl) (by kernel_rfl) (by kernel_rfl) (by decide) (fun _ _ _ h => h) (Or.inl ⟨by rfl, ?hy4⟩) hS ?_
  case hy4 => (intro w hSw; (try dsimp only at hSw); go_simp; try with_reducible rfl)
  simp only [Act.put, List.setIfInBounds_toArray, List.set_cons_zero, List.set_cons_succ]
  refine Zs.one (i := 5) (oi := ⟨some 27, _, _, _, _, _⟩) (by kernel_rfl) rfl (fun K hK => ?_)
  go_simp
  refine hK.out _ _ (fun _ => hS3) ?_
  clear hK K
  try simp only [Act.put, List.setIfInBounds_toArray, List.set_cons_zero, List.set_cons_succ]
  refine Zs.pure (i := 6) (oi := ⟨some 28, _, _, _, _, _⟩) (v := ?v6) rfl (by kernel_rfl) (by kernel_rfl) (by kernel_rfl) (by decide) (fun _ _ _ h => h) (Or.inl ⟨by rfl, ?hy6⟩) hS3 ?_
  case hy6 => (intro w hSw; (try dsimp only at hSw); go_simp; try with_reducible rfl)
  simp only [Act.put, List.setIfInBounds_toArray, List.set_cons_zero, List.set_cons_succ]
  refine Zs.one (i := 7) (oi := ⟨none, _, _, _, _, _⟩) (by kernel_rfl) rfl (fun K hK => ?_)
  go_simp
  refine hK.out _ _ (fun q => absurd q (by decide)) ?_
  clear hK K
  try simp only [Act.put, List.setIfInBounds_toArray, List.set_cons_zero, List.set_cons_succ]
  refine Zs.done (by kernel_rfl) ?_ _
  go_wp2_with fail
  refine bodyPost_end (v := .tuple #[]) (by simp [results, Tryz.results102, go_sem]) rfl ?_
  exact ⟨rfl, fin.out⟩
set_option maxRecDepth 100000 in
set_option maxHeartbeats 4000000 in
theorem ecount_less {w : World} {eb : Nat} {fb : ByteArray → Option Nat} {C : ByteArray → Ed → Int} {c : Nat} (h : En w eb fb C c) (x : ByteArray) (k : Int) (a b : ByteArray) (he : okE (k, a, b)) {bl : Nat} (hf : fb x = some bl) (hC : 2 ≤ C x (k, a, b)) (hx : x.size ≤ 1000) (hc : c ≤ 900000) :
    Calls Tryz.prog 102 #[.map (some eb), .string x, .agg #[.int .i64 k, .string a, .string b], .int .i64 (-1)] w fun r w' => r = .returned (.tuple #[]) ∧ ∃ fb', En w' eb fb' (updC C x (k, a, b) (-1)) (c + 1) ∧ EnGo w eb fb w' fb' := by
  obtain ⟨m, hm, hA⟩ := h.all
  obtain ⟨n, hn, hn0, hM⟩ := h.sub x bl hf
  obtain ⟨E, hE⟩ : ∃ E : EK, E = ⟨(k, a, b), he⟩ := ⟨_, rfl⟩
  have hEv : edV E.1 = .agg #[.int .i64 k, .string a, .string b] := by rw [hE]; rfl
  have hEe : E.1 = (k, a, b) := by rw [hE]
  have hqb := h.bd x (k, a, b)
  obtain ⟨q, hq⟩ : ∃ q, C x (k, a, b) = q := ⟨_, rfl⟩
  rw [hq] at hqb hC
  obtain ⟨W0, hW0⟩ : ∃ W0, w.alloc (.cells #[.int .i64 k, .string a, .string b] 156) = W0 := ⟨_, rfl⟩
  have b0 : Below w.heap.size w W0 := by rw [← hW0]; exact (Below.refl _ _).alloc (Nat.le_refl _) _
  have x0 : Bx k a b w.heap.size W0 := by rw [← hW0]; exact Bx.mk' _ _
  have lbl : bl < w.heap.size := h.lt (.inr ⟨x, hf⟩)
  have hA0 := hA.mv (Mv.below (E := fun _ => False) b0) (fun h => h)
  have hM0 := hM.mv (Mv.below (E := fun _ => False) b0) (fun h => h)
  have hlk := hA0.look lawS undEn (zeroMe W0) (a := x) (keyS hx)
  rw [hf] at hlk
  simp only [Option.map_some, Option.getD_some, Option.isSome_some] at hlk
  have hM2d := hM0.mv (Mv.drew (fun _ => False) W0) (fun h => h)
  have x2d := x0.mv (Mv.drew (fun _ => False) W0) (fun h => h)
  obtain ⟨W3, st, hen, mv3, hlk3, hst⟩ := hM2d.entry undMe zeroI E (by unfold maxLen; omega)
  have hlk2 := hM2d.look1 lawE undMe (zeroI _) (a := E) (keyE E)
  obtain ⟨W4, hst4, hM4, mv4⟩ := hst (.int .i64 (q + (-1)))
  rw [hEv] at hen hlk3 hlk2
  rw [cfS_get, hEe, hq] at hen hlk3 hlk2
  have x3 := x2d.mv mv3 (by show ¬ w.heap.size = bl; omega)
  have x4 := x2d.mv mv4 (by show ¬ w.heap.size = bl; omega)
  have hlk4 := hM4.look1 lawE undMe (zeroI _) (a := E) (keyE E)
  rw [if_pos rfl, hEv] at hlk4
  simp only [Option.getD_some] at hlk4
  obtain ⟨n4, hn4⟩ : ∃ n4, upN (cfS (C x) E).isSome n = n4 := ⟨_, rfl⟩
  have hn4b : n4 ≤ c + 1 ∧ n4 ≠ 0 := by rw [← hn4]; unfold upN; split <;> omega
  rw [hn4] at hM4
  have hln4 := hM4.len undMe 3
  have hM4' : ME W4 bl n4 (cfS (updC C x (k, a, b) (-1) x)) := hM4.cong (fun f => by
    have := cfS_upd (C := C) (x := x) (e := E) (d := (-1)) (by rw [hEe, hq]; omega) f
    rw [hEe, hq] at this
    rw [this])
  have mvB : Mv (fun k => k = bl) w W4 := ((Mv.below b0).trans' (Mv.drew _ _)).trans' mv4
  have fin : Hid (∃ fb', En W4 eb fb' (updC C x (k, a, b) (-1)) (c + 1) ∧ EnGo w eb fb W4 fb') := by
    have := h.put (x := x) (b := bl) (e := E) (d := (-1)) (n := n4) hf hn4b.1 hn4b.2 (by rw [hEe, hq]; omega) (by omega) mvB (by rw [hEe]; exact hM4')
    rw [hEe] at this
    exact ⟨fb, this, ⟨mvB.mono (fun k _ e => .inr ⟨x, e ▸ hf⟩), fun _ h => .inl h⟩⟩
  have t1 : (q + (-1) == 0) = false := by rw [beq_eq_false_iff_ne]; omega
  have t2 : ((n4 : Int) == 0) = false := by rw [beq_eq_false_iff_ne]; omega
  obtain ⟨p0, p1, p2⟩ := x0
  obtain ⟨r0, r1, r2⟩ := x4
  have hwr : IntKind.i64.wrap (q + (-1)) = q + (-1) := by exact i64w _ (by omega) (by omega)
  have hS : (W0.drew.cell? ⟨w.heap.size, 0, none⟩ = some (.int .i64 k) ∧ W0.drew.cell? ⟨w.heap.size, 1, none⟩ = some (.string a) ∧ W0.drew.cell? ⟨w.heap.size, 2, none⟩ = some (.string b)) ∧ (Instr.lookup 154 (.map (some bl)) (.agg #[.int .i64 k, .string a, .string b]) false).run Tryz.prog W0.drew = .ok (.int .i64 q) W0.drew := ⟨⟨p0, p1, p2⟩, hlk2⟩
  have hS3 : (W3.cell? ⟨w.heap.size, 0, none⟩ = some (.int .i64 k) ∧ W3.cell? ⟨w.heap.size, 1, none⟩ = some (.string a) ∧ W3.cell? ⟨w.heap.size, 2, none⟩ = some (.string b)) ∧ (Instr.lookup 154 (.map (some bl)) (.agg #[.int .i64 k, .string a, .string b]) false).run Tryz.prog W3 = .ok (.int .i64 q) W3 := ⟨⟨x3.c0, x3.c1, x3.c2⟩, hlk3⟩
  clear h hf hA hA0 hM hM0 hM2d hM4 hEv hEe hq mv3 mv4 mvB hst x3 x2d b0 hlk2 hlk3 hm hn0 hE hM4' hn4 hn4b
  go_enter Tryz.func102, Tryz.ntmps102
  go_wp2_with (rw [hW0])
  refine Zs.region (S := fun y => (y.cell? ⟨w.heap.size, 0, none⟩ = some (.int .i64 k) ∧ y.cell? ⟨w.heap.size, 1, none⟩ = some (.string a) ∧ y.cell? ⟨w.heap.size, 2, none⟩ = some (.string b)) ∧ (Instr.lookup 154 (.map (some bl)) (.agg #[.int .i64 k, .string a, .string b]) false).run Tryz.prog y = .ok (.int .i64 q) y) 7 (by kernel_rfl) ?_
  refine Zs.pure (i := 0) (oi := ⟨some 22, _, _, _, _, _⟩) (v := ?v0) rfl (by kernel_rfl) (by kernel_rfl) (by kernel_rfl) (by decide) (fun _ _ _ h => h) (Or.inl ⟨by rfl, ?hy0⟩) hS ?_
  case hy0 => (intro w hSw; (try dsimp only at hSw); go_simp; try with_reducible rfl)
  simp only [Act.put, List.setIfInBounds_toArray, List.set_cons_zero, List.set_cons_succ]
  refine Zs.take (i := 1) (oi := ⟨some 23, _, _, _, _, _⟩) (v := ?v1) rfl (by kernel_rfl) (by kernel_rfl) (by kernel_rfl) (by decide) (by kernel_rfl) (by kernel_rfl) (fun _ _ _ h => h) (Or.inl ⟨by rfl, ?hy1⟩) hS ?_
  case hy1 => (intro w hSw; (try dsimp only at hSw); go_simp; try with_reducible rfl)
  simp only [Act.put, List.setIfInBounds_toArray, List.set_cons_zero, List.set_cons_succ]
  refine Zs.take (i := 2) (oi := ⟨some 24, _, _, _, _, _⟩) (v := ?v2) rfl (by kernel_rfl) (by kernel_rfl) (by kernel_rfl) (by decide) (by kernel_rfl) (by kernel_rfl) (fun _ _ _ h => h) (Or.inl ⟨by rfl, ?hy2⟩) hS ?_
  case hy2 => (intro w hSw; (try dsimp only at hSw); go_simp; try with_reducible rfl)
  simp only [Act.put, List.setIfInBounds_toArray, List.set_cons_zero, List.set_cons_succ]
  refine Zs.pure (i := 3) (oi := ⟨some 25, _, _, _, _, _⟩) (v := ?v3) rfl (by kernel_rfl) (by kernel_rfl) (by kernel_rfl) (by decide) (fun _ _ _ h => h) (Or.inl ⟨by rfl, ?hy3⟩) hS ?_
  case hy3 => (intro w hSw; (try dsimp only at hSw); go_simp; try with_reducible rfl)
  simp only [Act.put, List.setIfInBounds_toArray, List.set_cons_zero, List.set_cons_succ]
  refine Zs.pure (i := 4) (oi := ⟨some 26, _, _, _, _, _⟩) (v := ?v4) rfl (by kernel_rfl) (by kernel_rfl) (by kernel_rfl) (by decide) (fun _ _ _ h => h) (Or.inl ⟨by rfl, ?hy4⟩) hS ?_
  case hy4 => (intro w hSw; (try dsimp only at hSw); go_simp; try with_reducible rfl)
  simp only [Act.put, List.setIfInBounds_toArray, List.set_cons_zero, List.set_cons_succ]
  refine Zs.one (i := 5) (oi := ⟨some 27, _, _, _, _, _⟩) (by kernel_rfl) rfl (fun K hK => ?_)
  go_simp
  refine hK.out _ _ (fun _ => hS3) ?_
  clear hK K
  try simp only [Act.put, List.setIfInBounds_toArray, List.set_cons_zero, List.set_cons_succ]
  refine Zs.pure (i := 6) (oi := ⟨some 28, _, _, _, _, _⟩) (v := ?v6) rfl (by kernel_rfl) (by kernel_rfl) (by kernel_rfl) (by decide) (fun _ _ _ h => h) (Or.inl ⟨by rfl, ?hy6⟩) hS3 ?_
  case hy6 => (intro w hSw; (try dsimp only at hSw); go_simp; try with_reducible rfl)
  simp only [Act.put, List.setIfInBounds_toArray, List.set_cons_zero, List.set_cons_succ]
  refine Zs.one (i := 7) (oi := ⟨none, _, _, _, _, _⟩) (by kernel_rfl) rfl (fun K hK => ?_)
  go_simp
  refine hK.out _ _ (fun q => absurd q (by decide)) ?_
  clear hK K
  try simp only [Act.put, List.setIfInBounds_toArray, List.set_cons_zero, List.set_cons_succ]
  refine Zs.done (by kernel_rfl) ?_ _
  go_wp2_with fail
  refine bodyPost_end (v := .tuple #[]) (by simp [results, Tryz.results102, go_sem]) rfl ?_
  exact ⟨rfl, fin.out⟩
end Go.Proofs.YtedgnigogkmgkaaGreatDoor
