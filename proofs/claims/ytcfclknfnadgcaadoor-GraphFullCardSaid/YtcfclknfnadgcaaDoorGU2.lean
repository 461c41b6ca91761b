/- The contract of graph.copied. -/
import Derived.Test.YtcfclknfnadgcaaDoorGL
namespace Go.Proofs.YtcfclknfnadgcaaDoor
open Go.RowKit Go.Shelf Go.Lib
theorem posL_lt {i p : Nat} (h : posL[i]? = some p) : p < 33 ∧ i < 13 := by
  obtain ⟨h1, h2⟩ := List.getElem?_eq_some_iff.1 h
  have : i < 13 := h1
  have hm : p ∈ posL := List.mem_of_getElem? h
  unfold posL at hm
  simp at hm
  omega
theorem posL_inj {i j p : Nat} (h : posL[i]? = some p) (g : posL[j]? = some p) : i = j := by
  have key : ∀ a : Fin 13, ∀ b : Fin 13, posL[a.1]? = posL[b.1]? → a.1 = b.1 := by decide
  exact key ⟨i, (posL_lt h).2⟩ ⟨j, (posL_lt g).2⟩ (h.trans g.symm)
/-- The pointers to a unit's lists. -/
def ptrs (n : Nat) : List Value := posL.map fun p => .pointer (some ⟨n, p, none⟩)
theorem undPl : Tryd.prog.underlying 75 = some (.slice 74) := Tryd.underlying75
/-- How far it is copied: lists ahead of k are copies. -/
structure Cp (w : World) (vs : Array Value) (u : Un) (n k : Nat) (cs : Array Value) (W : World) : Prop where
  sz : cs.size = 33
  cel : Ub n cs W
  fz : ∀ p, W.frozen? ⟨n, p, none⟩ = false
  new : ∀ i p, posL[i]? = some p → i < k → ∃ v, cs[p]? = some v ∧ NR W v (u.ls i) ∧ ∀ b, rbk v = some b → n + 2 < b
  old : ∀ p, (∀ i, posL[i]? = some p → k ≤ i) → cs[p]? = vs[p]?
  mv : Mv (fun j => j = n) w W
  pt : ∀ i p, posL[i]? = some p → W.cell? ⟨n + 2, i, none⟩ = some (.pointer (some ⟨n, p, none⟩))
  hn : w.heap.size = n
  hz : n + 2 < W.heap.size
theorem Cp.step {w W W1 : World} {vs cs : Array Value} {u : Un} {n k p : Nat} {v' : Value} (h : Cp w vs u n k cs W) (hp : posL[k]? = some p) (hv : NR W1 v' (u.ls k)) (hf : ∀ b, rbk v' = some b → W.heap.size ≤ b) (hb : Below W.heap.size W W1) : Cp w vs u n (k + 1) (cs.setIfInBounds p v') (W1.setCell ⟨n, p, none⟩ v') := by
  have hlt := posL_lt hp
  have hz := h.hz
  have m1 : Mv (fun j => j = n) W W1 := Mv.below hb
  have m2 : Mv (fun j => j = n) W1 (W1.setCell ⟨n, p, none⟩ v') := (Mv.refl (fun j => j = n) W1).setc (p := ⟨n, p, none⟩) (.inl rfl) _
  have hn := h.hn
  have hsz := hb.size
  have hb1 : Ub n cs W1 := h.cel.mv (Mv.below (E := fun _ => False) hb) (fun h => h)
  refine ⟨by rw [Array.size_setIfInBounds]; exact h.sz, fun q x hq => ?_, fun q => ?_, fun i q hi hik => ?_, fun q hq => ?_, (h.mv.trans' m1).trans' m2, fun i q hi => ?_, h.hn, ?_⟩
  · by_cases e : q = p
    · subst e
      rw [Array.getElem?_setIfInBounds_self_of_lt (by rw [h.sz]; exact hlt.1)] at hq
      cases hq
      exact World.cell?_setCell_same' _ _ _ (by
        have : q < cs.size := by rw [h.sz]; exact hlt.1
        rw [hb1 q cs[q] (Array.getElem?_eq_getElem this)]; rfl)
    · rw [Array.getElem?_setIfInBounds_ne (fun e2 => e e2.symm)] at hq
      rw [World.cell?_setCell_other _ _ _ _ (by simp)]
      exact hb1 q x hq
  · rw [World.frozen?_setCell]
    exact ((Mv.below (E := fun _ => False) hb).froz (a := ⟨n, q, none⟩) (fun h => h) (by show n < _; omega)).trans (h.fz q)
  · by_cases e : i = k
    · subst e
      rw [hp] at hi
      cases hi
      refine ⟨v', ?_, hv.mv m2 (fun b hk e => by have := hf b hk; omega), fun b hk => by have := hf b hk; omega⟩
      rw [Array.getElem?_setIfInBounds_self_of_lt (by rw [h.sz]; exact hlt.1)]
    · have e2 : p ≠ q := fun e2 => e (posL_inj hi (e2 ▸ hp))
      obtain ⟨x, q1, q2, q3⟩ := h.new i q hi (by omega)
      exact ⟨x, by rw [Array.getElem?_setIfInBounds_ne e2]; exact q1, (q2.mv m1 (fun b hk => by have := q3 b hk; omega)).mv m2 (fun b hk => by have := q3 b hk; omega), q3⟩
  · have e2 : p ≠ q := fun e2 => by have := hq k (e2 ▸ hp); omega
    rw [Array.getElem?_setIfInBounds_ne e2]
    exact h.old q (fun i hi => by have := hq i hi; omega)
  · rw [World.cell?_setCell_other _ _ _ _ (by simp)]
    exact (Mv.below (E := fun _ => False) hb).cell (fun h => h) (h.pt i q hi)
  · show n + 2 < (W1.setCell _ _).heap.size
    simp
    try omega
theorem Cp.done {w W : World} {vs cs : Array Value} {u : Un} {n : Nat} (h : Cp w vs u n 13 cs W) (hu : UV w vs u) : UV W cs u ∧ ∀ b, ubk cs b → n + 2 < b := by
  have no : ∀ q, q ∉ posL → cs[q]? = vs[q]? := fun q hq => h.old q (fun i hi => absurd (List.mem_of_getElem? hi) hq)
  refine ⟨⟨h.sz, fun q x hq => ?_, (no 0 (by decide)).trans hu.c0, (no 1 (by decide)).trans hu.c1, (no 10 (by decide)).trans hu.c10, (no 25 (by decide)).trans hu.c25, fun i p hp => ?_, fun p h1 h2 => by rw [no p h2]; exact hu.os p h1 h2⟩, fun b hb => ?_⟩
  · by_cases hm : q ∈ posL
    · obtain ⟨i, hi⟩ := List.mem_iff_getElem?.1 hm
      obtain ⟨v2, q3, q4, _⟩ := h.new i q hi (posL_lt hi).2
      rw [hq] at q3; cases q3
      exact q4.one
    · rw [no q hm] at hq
      exact hu.on q x hq
  · obtain ⟨v, q1, q2, _⟩ := h.new i p hp (posL_lt hp).2
    exact ⟨v, q1, q2⟩
  · obtain ⟨p, v, q1, q2⟩ := hb
    by_cases hm : p ∈ posL
    · obtain ⟨i, hi⟩ := List.mem_iff_getElem?.1 hm
      obtain ⟨v2, q3, _, q4⟩ := h.new i p hi (posL_lt hi).2
      rw [q1] at q3; cases q3
      exact q4 b q2
    · have hp : p < 33 := by have := (Array.getElem?_eq_some_iff.1 q1).1; have := h.sz; omega
      rw [no p hm, (hu.os p hp hm).1] at q1
      cases q1
      rw [(hu.os p hp hm).2] at q2; cases q2
set_option maxRecDepth 100000 in
set_option maxHeartbeats 4000000 in
theorem copied_any (vs : Array Value) (u : Un) (w : World) (hu : UV w vs u) :
    Calls Tryd.prog 20 #[.agg vs] w fun e w' => ∃ cs, e = .returned (.agg cs) ∧ UV w' cs u ∧ (∀ b, ubk cs b → w.heap.size ≤ b) ∧ Below w.heap.size w w' := by
  obtain ⟨n, hn⟩ : ∃ n, w.heap.size = n := ⟨_, rfl⟩
  have hsz := hu.sz
  have huH := hidP hu
  clear hu
  go_enter Tryd.func20, Tryd.ntmps20
  go_wp2_with fail
  generalize hW0 : World.alloc (World.alloc (World.alloc w _) _) _ = W0
  have hcp : Hid (∃ cs, Cp w vs u n 0 cs W0) := by
    refine ⟨vs, hsz, ?_, ?_, fun i p _ h => by omega, fun p _ => rfl, ?_, ?_, hn, ?_⟩
    · rw [← hW0]
      intro p v hp
      rw [World.cell?_alloc_lt _ _ _ (by simp; omega), World.cell?_alloc_lt _ _ _ (by simp; omega)]
      exact cell_at hn hp
    · rw [← hW0]
      intro p
      unfold World.frozen?
      rw [Below.heap_alloc _ _ _ (by simp; omega), Below.heap_alloc _ _ _ (by simp; omega), ← hn, World.alloc_heap_new]
      simp
    · rw [← hW0]
      exact ((Mv.alloc _ _ _).trans' (Mv.alloc _ _ _)).trans' (Mv.alloc _ _ _)
    · rw [← hW0]
      intro i p hp
      refine cell_at (by simp; omega) ?_
      have : (ptrs n).toArray[i]? = some (.pointer (some ⟨n, p, none⟩)) := by
        unfold ptrs
        rw [List.getElem?_toArray, List.getElem?_map, hp]; rfl
      exact this
    · rw [← hW0]
      simp
      omega
  have hzu : Hid ((∀ p, p < 33 → (W0.cell? ⟨n + 1, p, none⟩).isSome = true) ∧ ∀ p, W0.frozen? ⟨n + 1, p, none⟩ = false) := by
    rw [← hW0]
    have h1 : ∀ (A : World) (cs : Array Value) (t : TypeId) (o : Obj) (B : World), A.heap.size = n + 1 → ((A.alloc (.cells cs t)).alloc o).heap[n + 1]? = some (.cells cs t) := by
      intro A cs t o B hA
      rw [Below.heap_alloc _ _ _ (by simp; omega), ← hA, World.alloc_heap_new]
    constructor
    · intro p hp
      unfold World.cell?
      rw [h1 _ _ _ _ w (by simp; omega)]
      simp
      exact hp
    · intro p
      unfold World.frozen?
      rw [h1 _ _ _ _ w (by simp; omega)]
      simp
  clear hW0
  go_loopw [20] (fun i wr => ∃ k : Nat, k ≤ 13 ∧ i = .int .i64 k ∧ Hid (∃ cs, Cp w vs u n k cs wr) ∧ Hid (Mv (fun j => j = n) W0 wr)) (fun i _ => 13 - (intOf i).toNat)
  case atStart => exact ⟨0, by omega, rfl, hcp, Mv.refl _ _⟩
  case round =>
    obtain ⟨k, hk, rfl, hc, hm⟩ := hrel
    obtain ⟨cs, hc⟩ := hc.out
    by_cases hlt : k < 13
    · obtain ⟨p, hp⟩ : ∃ p, posL[k]? = some p := ⟨_, List.getElem?_eq_getElem hlt⟩
      have c1 := hc.pt k p hp
      obtain ⟨v, hv, hnr⟩ := huH.out.ls k p hp
      have hv2 : cs[p]? = some v := (hc.old p (fun i hi => by rw [posL_inj hi hp]; exact Nat.le_refl _)).trans hv
      have c2 := hc.cel p v hv2
      have hnr2 := hnr.mv hc.mv (fun b hb e => by have := hnr.lt hb; have := hc.hn; omega)
      have hcl := clone_any v (u.ls k) wr hnr2
      have hcH := hidP hc
      have hpH := hidP hp
      have hz := hc.hz
      clear hc hp hv hv2 hnr hnr2
      go_wp2_with fail
      refine hcl.mono ?_
      rintro e w1 ⟨v', rfl, hn1, hf1, hb1⟩
      have c3 : w1.cell? ⟨n, p, none⟩ = some v := (Mv.below (E := fun _ => False) hb1).cell (fun h => h) c2
      have f3 : w1.frozen? ⟨n, p, none⟩ = false := ((Mv.below (E := fun _ => False) hb1).froz (a := ⟨n, p, none⟩) (fun h => h) (by show n < _; omega)).trans (hcH.out.fz p)
      have fin : Hid (∃ cs, Cp w vs u n (k + 1) cs (w1.setCell ⟨n, p, none⟩ v')) := ⟨_, hcH.out.step hpH.out hn1 hf1 hb1⟩
      have hm2 : Hid (Mv (fun j => j = n) W0 (w1.setCell ⟨n, p, none⟩ v')) := (hm.out.trans' (Mv.below hb1)).setc (p := ⟨n, p, none⟩) (.inl rfl) _
      have hst : (storeCells ⟨n, p, none⟩ [v']).run Tryd.prog w1 = .ok () (w1.setCell ⟨n, p, none⟩ v') := by
        have := run_storeCells_cells (P := Tryd.prog) n p [v'] 0 w1 (fun j hj => by obtain rfl : j = 0 := (by simpa using hj); simp [c3]) (fun j hj => by obtain rfl : j = 0 := (by simpa using hj); simp [f3]) (fun v hv => by simp at hv; subst hv; exact hn1.one)
        exact this
      clear hn1 hf1 hb1 c1 c2 c3 f3 hcl
      go_wp2_with (rw [hst])
      exact ⟨⟨k + 1, by omega, by go_num, fin, hm2⟩, by simp [intOf]; omega⟩
    · obtain rfl : k = 13 := by omega
      obtain ⟨hU, hB⟩ := hc.done huH.out
      have hld := hc.cel.load hU.sz
      have hm' := hm.out
      obtain ⟨W2, hst, hU2, mv2⟩ := Ub.store (P := Tryd.prog) (n := n + 1) (w := wr) hU.sz hU.on (fun p hp => by
        obtain ⟨x, hx⟩ := Option.isSome_iff_exists.1 (hzu.out.1 p hp)
        rw [hm'.cell (a := ⟨n + 1, p, none⟩) (by show ¬ n + 1 = n; omega) hx]; rfl) (fun p => by
        obtain ⟨x, hx⟩ := Option.isSome_iff_exists.1 (hzu.out.1 0 (by omega))
        have := cell_lt hx
        exact (hm'.froz (a := ⟨n + 1, p, none⟩) (by show ¬ n + 1 = n; omega) this).trans (hzu.out.2 p))
      have hld2 := hU2.load hU.sz
      have hn' := hc.hn
      have fin : Hid (∃ cs', Ending.returned (.agg cs) = .returned (.agg cs') ∧ UV W2 cs' u ∧ (∀ b, ubk cs' b → w.heap.size ≤ b) ∧ Below w.heap.size w W2) := by
        refine ⟨cs, rfl, hU.mv mv2 (fun b hb e => by have := hB b hb; omega), fun b hb => by have := hB b hb; omega, ?_⟩
        · exact ((hc.mv.mono (E' := fun k => k = n ∨ k = n + 1) (fun k _ e => .inl e)).trans' (mv2.mono (fun k _ e => .inr e))).toBelow (Nat.le_refl _) (fun k hk e => by omega)
      have hsz2 := hU.sz
      clear hU hB hc hm' mv2 hU2 hzu hm
      go_wp2_with (first | refine wpList_loadU rfl _ rfl _ rfl _ hld ?_ | refine wpList_storeU rfl _ _ rfl _ rfl _ rfl hsz2 hst ?_)
      refine bodyPost_ret (v := .agg cs) (by simp [results, Tryd.results20, Act.put]; exact loadVarU hld2) rfl ?_
      exact fin.out
end Go.Proofs.YtcfclknfnadgcaaDoor
