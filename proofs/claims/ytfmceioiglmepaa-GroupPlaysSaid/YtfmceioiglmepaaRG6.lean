/- The reference's Gone. -/
import Derived.Test.YtfmceioiglmepaaRG5
namespace Go.Proofs.Ytfmceioiglmepaa
open Go.RowKit Go.Shelf Go.Lib
theorem own_set {w : World} {base : Nat} {e : TypeId} {size : Nat} {n g cap j : Nat} {xs : List Value} (h : w.ownsRow base e size (.slice (some ⟨g, 0, none⟩) n cap) n xs) (u : Value) :
    (w.setCell ⟨g, j, none⟩ u).ownsRow base e size (.slice (some ⟨g, 0, none⟩) n cap) n (xs.set j u) := by
  refine ⟨by rw [List.length_set]; exact h.1, .inr ?_⟩
  rcases h.2 with ⟨e, _⟩ | ⟨g2, cap2, cur, e, hb, hg, h1, h2, h3, h4⟩
  · cases e
  · injection e with e1 e2 e3
    injection e1 with e1
    injection e1 with a b c
    subst a
    subst e3
    refine ⟨g, cap, cur.setIfInBounds j u, rfl, hb, ?_, h1, h2, by simpa using h3, ?_⟩
    · simp [World.setCell, Array.getElem?_modify, hg]
    · rw [← h4]
      rw [Array.toList_setIfInBounds, List.take_set]
theorem cs2_set : ∀ {l : List RG} {i : Nat} {x y : RG}, l[i]? = some x → y.nm = x.nm → cs2 (l.set i y) = (cs2 l).set (i * 2 + 1) y.v
  | [], i, x, y, h, _ => by simp at h
  | z :: r, 0, x, y, h, hn => by
    simp at h
    subst h
    show (.string y.nm :: y.v :: cs2 r) = _
    rw [hn]
    rfl
  | z :: r, i + 1, x, y, h, hn => by
    have := cs2_set (l := r) (i := i) (x := x) (y := y) (by simpa using h) hn
    show (.string z.nm :: z.v :: cs2 (r.set i y)) = (.string z.nm :: z.v :: cs2 r).set ((i + 1) * 2 + 1) y.v
    rw [this, show (i + 1) * 2 + 1 = i * 2 + 1 + 1 + 1 by omega]
    rfl
/-- The members of one turn. -/
theorem Rs.turnP {w w' : World} {R : Rt} {i g cap : Nat} {x : RG} {v : Value} {ps : List Int} (h : Rs w R) (hx : R.l[i]? = some x) (hlv : R.lv = .slice (some ⟨g, 0, none⟩) R.l.length cap) (mv : Mv (fun _ => False) w w') (hv : IR w' v ps) (hb : ∀ k, nb v = some k → k < w'.heap.size ∧ w.heap.size ≤ k) :
    RGoes R w { R with l := R.l.set i ⟨x.nm, ps, v⟩ } (w'.setCell ⟨g, i * 2 + 1, none⟩ v) := by
  have h' := h.mv mv (fun _ _ h => h) (fun _ _ _ _ h => h)
  have hg : R.lv.ownBlock = some g := by rw [hlv]; rfl
  have m2 : Mv (fun k => k = g) w' (w'.setCell ⟨g, i * 2 + 1, none⟩ v) := (Mv.refl (fun k => k = g) _).setc (p := ⟨g, i * 2 + 1, none⟩) (.inl rfl) _
  have hbg : R.b ≠ g := fun e => h.n1 g hg e.symm
  have hrow := h'.row
  rw [hlv] at hrow
  have hnew : ∀ k, nb v = some k → ¬ hasR R k := fun k hk q => by have := h.lt q; have := (hb k hk).2; omega
  have hps : ∀ y ∈ R.l.set i ⟨x.nm, ps, v⟩, IR w' y.v y.ps ∧ ∀ k, nb y.v = some k → k < w'.heap.size ∧ ¬ hasR R k := fun y hy => by
    rcases List.mem_or_eq_of_mem_set hy with q | q
    · exact h'.ps y q
    · rw [q]; exact ⟨hv, fun k hk => ⟨(hb k hk).1, hnew k hk⟩⟩
  refine ⟨⟨m2.cell hbg h'.c0, m2.cell hbg h'.c1, (m2.froz (a := ⟨R.b, 0, none⟩) hbg (cell_lt h'.c0)).trans h'.f0, (m2.froz (a := ⟨R.b, 1, none⟩) hbg (cell_lt h'.c1)).trans h'.f1, ?_, fun y hy => ⟨(hps y hy).1.mv m2 (fun k hk e => ((hps y hy).2 k hk).2 (.inr (.inl (by rw [e]; exact hg)))), fun k hk => ⟨Nat.lt_of_lt_of_le ((hps y hy).2 k hk).1 m2.size, ((hps y hy).2 k hk).2⟩⟩, h'.nts.mv m2 (fun k hk e => (h.n2 k hk).2 (by rw [e]; exact hg)), h.n1, h.n2⟩, rfl, (mv.mono (fun k _ e => absurd e id)).trans' (m2.mono (fun k _ e => .inr (.inl (by rw [e]; exact hg)))), fun k hk => .inl hk, fun y hy k hk => by
    rcases List.mem_or_eq_of_mem_set hy with q | q
    · exact .inl ⟨y, q, hk⟩
    · subst q; exact .inr (hb k hk).2⟩
  show World.ownsRow _ _ _ _ R.lv (R.l.set i ⟨x.nm, ps, v⟩).length (cs2 (R.l.set i ⟨x.nm, ps, v⟩))
  rw [cs2_set (y := ⟨x.nm, ps, v⟩) hx rfl, List.length_set, hlv]
  exact own_set hrow v
/-- The notes turn, their own row among them. -/
theorem Rs.turnM {w w' : World} {R : Rt} (h : Rs w R) {nv : Value} {ns : List ByteArray} (mv : Mv (fun k => nb R.nv = some k) w w') (hv : NS w' nv ns) (hb : ∀ k, nb nv = some k → nb R.nv = some k ∨ w.heap.size ≤ k) :
    RGoes R w { R with nv := nv, ns := ns } (w'.setCell ⟨R.b, 1, none⟩ nv) := by
  have hbn : ¬ nb R.nv = some R.b := fun e => (h.n2 _ e).1 rfl
  have m2 : Mv (fun k => k = R.b) w' (w'.setCell ⟨R.b, 1, none⟩ nv) := (Mv.refl (fun k => k = R.b) _).setc (p := ⟨R.b, 1, none⟩) (.inl rfl) _
  have m3 : Mv (fun k => k = R.b ∨ nb R.nv = some k) w (w'.setCell ⟨R.b, 1, none⟩ nv) := (mv.mono (fun k _ e => .inr e)).trans' (m2.mono (fun k _ e => .inl e))
  have hbl : R.b < w.heap.size := h.lt (.inl rfl)
  have hnb : ∀ k, nb nv = some k → k ≠ R.b ∧ R.lv.ownBlock ≠ some k := fun k hk => by
    rcases hb k hk with q | q
    · exact h.n2 k q
    · refine ⟨by omega, fun e => ?_⟩
      have := h.lt (.inr (.inl e))
      omega
  have c1' := mv.cell (a := ⟨R.b, 1, none⟩) hbn h.c1
  refine ⟨⟨?_, World.cell?_setCell_same' _ _ _ (by rw [c1']; rfl), by rw [World.frozen?_setCell]; exact (mv.froz (a := ⟨R.b, 0, none⟩) hbn (cell_lt h.c0)).trans h.f0, by rw [World.frozen?_setCell]; exact (mv.froz (a := ⟨R.b, 1, none⟩) hbn (cell_lt h.c1)).trans h.f1, own_mv h.row m3 (fun g hg e => ?_), fun x hx => ⟨(h.ps x hx).1.mv m3 (fun k hk e => ((h.ps x hx).2 k hk).2 ?_), fun k hk => ⟨Nat.lt_of_lt_of_le ((h.ps x hx).2 k hk).1 m3.size, fun q => ?_⟩⟩, hv.mv m2 (fun k hk e => (hnb k hk).1 e), h.n1, hnb⟩, rfl, m3.mono (fun k _ e => ?_), fun k hk => ?_, fun x hx _ hk => .inl ⟨x, hx, hk⟩⟩
  · exact (World.cell?_setCell_other _ _ _ _ (by simp)).trans (mv.cell (a := ⟨R.b, 0, none⟩) hbn h.c0)
  · rcases e with e | e
    · exact h.n1 g hg e
    · exact (h.n2 g e).2 hg
  · rcases e with e | e
    · exact .inl e
    · exact .inr (.inr e)
  · have hx2 := (h.ps x hx).2 k hk
    rcases q with q | q | q
    · exact hx2.2 (.inl q)
    · exact hx2.2 (.inr (.inl q))
    · rcases hb k q with r | r
      · exact hx2.2 (.inr (.inr r))
      · omega
  · rcases e with e | e
    · exact .inl e
    · exact .inr (.inr e)
  · rcases hk with q | q | q
    · exact .inl (.inl q)
    · exact .inl (.inr (.inl q))
    · rcases hb k q with r | r
      · exact .inl (.inr (.inr r))
      · exact .inr r
theorem own_froz {w : World} {base : Nat} {e : TypeId} {size : Nat} {v : Value} {n g j : Nat} {xs : List Value} (h : w.ownsRow base e size v n xs) (hg : v.ownBlock = some g) : w.frozen? ⟨g, j, none⟩ = false := by
  rcases h.2 with ⟨e, _⟩ | ⟨g2, cap2, cur, e, hb, hg2, _⟩
  · rw [e] at hg; cases hg
  · rw [e] at hg
    have : g2 = g := by simpa [Value.ownBlock] using hg
    subst this
    unfold World.frozen?
    rw [hg2]
    simp
def srtR (l : List RG) : Prop := l.Pairwise fun x y => sLt x.nm y.nm = true
theorem bl_irr : ∀ x : List UInt8, Op.bytesLess x x = false
  | [] => rfl
  | a :: r => by
    unfold Op.bytesLess
    rw [bl_irr r]
    simp
theorem sLt_irr (s : ByteArray) : sLt s s = false := bl_irr _
theorem at_idx {l : List RG} (hs : srtR l) {i : Nat} {x : RG} (hx : l[i]? = some x) : atP l x.nm = i := by
  obtain ⟨hi, e⟩ := List.getElem?_eq_some_iff.1 hx
  refine atP_eq (by omega) (fun j y hj hy => ?_) (fun y hy => ?_)
  · obtain ⟨hj2, e2⟩ := List.getElem?_eq_some_iff.1 hy
    have := List.pairwise_iff_getElem.1 hs j i hj2 hi hj
    rw [e, e2] at this
    exact this
  · rw [hx] at hy
    cases hy
    exact sLt_irr _
theorem there_idx {l : List RG} (hs : srtR l) {i : Nat} {x : RG} (hx : l[i]? = some x) : thereR l x.nm = true := by
  unfold thereR
  rw [at_idx hs hx, hx]
  simp
end Go.Proofs.Ytfmceioiglmepaa
