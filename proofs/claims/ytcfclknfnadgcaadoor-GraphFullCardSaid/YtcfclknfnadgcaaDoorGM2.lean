/- An entry of a map that is made or found, and what is stored behind it. -/
import Derived.Test.YtcfclknfnadgcaaDoorGM
namespace Go.Proofs.YtcfclknfnadgcaaDoor
open Go.RowKit Go.Shelf Go.Lib Go.WideElems Go.ChangeMaps
set_option maxRecDepth 1000000 in
theorem klawE : Go.WideMaps.KeyLaw Tryd.prog 37 := deep_law_laid laidOutE (m := 2) (by decide) rowEd deepEd wideEd
theorem block_twice (w : World) (b : Nat) (X Y : Obj) : setBlock (setBlock w b X) b Y = setBlock w b Y := by
  unfold setBlock
  simp
theorem block_same {w : World} {b : Nat} {X : Obj} (h : w.heap[b]? = some X) : setBlock w b X = w := by
  unfold setBlock
  obtain ⟨h1, h2⟩ := Array.getElem?_eq_some_iff.1 h
  have : w.heap.setIfInBounds b X = w.heap := by
    rw [← h2]
    refine Array.ext (by simp) fun i a1 a2 => ?_
    rw [Array.getElem_setIfInBounds]
    split
    · next e => subst e; rfl
    · rfl
  rw [this]
theorem Mv.block1 (w : World) (b : Nat) (X : Obj) : Mv (fun k => k = b) w (setBlock w b X) := by
  refine ⟨rfl, rfl, rfl, by unfold setBlock; simp, fun k _ hk => ?_⟩
  unfold setBlock
  rw [Array.getElem?_setIfInBounds_ne (fun e => hk e.symm)]
theorem ME.entry {w : World} {b m : Nat} {f : EK → Option Value} (h : ME w b m f) {t et : TypeId} (ht : Tryd.prog.underlying t = some (.map 37 et)) {z : Value} (hz : ∀ u : World, (zeroValue et).run Tryd.prog u = .ok z u) (a : EK) (hm : m < maxLen) :
    ∃ W1 st, (Instr.mapEntry t (.map (some b)) (edV a.1)).run Tryd.prog w = .ok (.tuple #[(f a).getD z, .int .i64 (st : Nat)]) W1 ∧ Mv (fun k => k = b) w W1 ∧ (Instr.lookup t (.map (some b)) (edV a.1) false).run Tryd.prog W1 = .ok ((f a).getD z) W1 ∧
      ∀ v, ∃ W2, (Instr.entryStore t (.map (some b)) (.int .i64 (st : Nat)) v).run Tryd.prog W1 = .ok () W2 ∧ ME W2 b (upN (f a).isSome m) (fun x => if x = a then some v else f x) ∧ Mv (fun k => k = b) w W2 := by
  have hl := h.look1 lawE ht (hz w) (a := a) (keyE a)
  have hst := fun v => h.store ht (a := a) (keyE a) v hm
  obtain ⟨D, ⟨es, c, hb, F, hs, hD⟩, h2, h3, _⟩ := h
  obtain ⟨v0, st, es1, c1, hE, hcase, hS⟩ := entry_then_store klawE ht hz hb F (keyE a)
  have hlt := (Array.getElem?_eq_some_iff.1 hb).1
  have hb1 : (setBlock w b (.map es1 c1)).heap[b]? = some (.map es1 c1) := by
    unfold setBlock
    simp [hlt]
  have key : v0 = (f a).getD z ∧ (Instr.lookup t (.map (some b)) (edV a.1) false).run Tryd.prog (setBlock w b (.map es1 c1)) = .ok ((f a).getD z) (setBlock w b (.map es1 c1)) := by
    rcases klawE.find w (keyE a) es.toList F.keys with ⟨q1, q2⟩ | ⟨j, e0, q1, q2, q3⟩
    · have e1 : z = (f a).getD z := by
        simp [Instr.lookup, run_underlying ht, MapKept.run_getObj_map hb, klawE.check w _ (keyE a), q1, hz, Result.andThen] at hl
        exact hl
      have hE2 := hE
      simp [Instr.mapEntry, run_underlying ht, MapKept.run_getObj_map hb, klawE.check w false (keyE a), q1, hz, MapKept.run_setObj_map _ hb, Result.andThen, setBlock] at hE2
      obtain ⟨⟨hv, _⟩, hheap⟩ := hE2
      have hW : setBlock w b (.map es1 c1) = setBlock w b (.map (es.push ⟨edV a.1, z, c⟩) (c + 1)) := by unfold setBlock; rw [hheap]
      have hb2 : (setBlock w b (.map (es.push ⟨edV a.1, z, c⟩) (c + 1))).heap[b]? = some (.map (es.push ⟨edV a.1, z, c⟩) (c + 1)) := by
        unfold setBlock
        simp [hlt]
      refine ⟨by rw [← hv, ← e1], ?_⟩
      rw [hW, ← e1]
      generalize setBlock w b (.map (es.push ⟨edV a.1, z, c⟩) (c + 1)) = W at hb2 ⊢
      rcases klawE.find W (keyE a) (es.push ⟨edV a.1, z, c⟩).toList (fun x hx => by
        rw [Array.toList_push, List.mem_append] at hx
        rcases hx with hx | hx
        · exact F.keys x hx
        · simp at hx; subst hx; exact ⟨_, keyE a⟩) with ⟨p1, p2⟩ | ⟨j, e0, p1, p2, p3⟩
      · exact absurd rfl (p2 ⟨edV a.1, z, c⟩ (by simp))
      · have hm0 := List.mem_of_getElem? p2
        rw [Array.toList_push, List.mem_append] at hm0
        have hv0 : e0.val = z := by
          rcases hm0 with hm0 | hm0
          · exact absurd p3 (q2 _ hm0)
          · simp at hm0; subst hm0; rfl
        rw [Array.toList_push] at p1
        simp [Instr.lookup, run_underlying ht, MapKept.run_getObj_map hb2, klawE.check W _ (keyE a), p1, Result.andThen, hv0]
    · have hj : es[j]? = some e0 := by simpa using q2
      have e1 : e0.val = (f a).getD z := by
        simp [Instr.lookup, run_underlying ht, MapKept.run_getObj_map hb, klawE.check w _ (keyE a), q1, Result.andThen] at hl
        exact hl
      have hE2 := hE
      simp [Instr.mapEntry, run_underlying ht, MapKept.run_getObj_map hb, klawE.check w false (keyE a), q1, hj, q3, klawE.stays w (keyE a), MapKept.run_setObj_map _ hb, Result.andThen, setBlock] at hE2
      obtain ⟨⟨hv, _⟩, hheap⟩ := hE2
      have hkk : es.modify j (fun e => { e with key := e0.key }) = es := by
        apply Array.ext'
        rw [Array.toList_modify, modify_eq_set _ _ _ _ q2]
        exact set_self _ _ _ q2
      have hW : setBlock w b (.map es1 c1) = w := by
        have h5 := block_same hb
        unfold setBlock at h5 ⊢
        rw [← hheap]
        rw [q3] at hkk
        rw [hkk]; exact h5
      refine ⟨by rw [← hv, ← e1], ?_⟩
      rw [hW]
      exact hl
  refine ⟨_, st, by rw [key.1] at hE; exact hE, Mv.block1 _ _ _, key.2, fun v => ?_⟩
  obtain ⟨es2, c2, r1, r2⟩ := hS _ v hb1
  obtain ⟨W2, r3, r4, r5⟩ := hst v
  rw [r2] at r3
  injection r3 with _ r3
  rw [block_twice, r3] at r1
  exact ⟨W2, r1, r4, r5⟩
end Go.Proofs.YtcfclknfnadgcaaDoor
