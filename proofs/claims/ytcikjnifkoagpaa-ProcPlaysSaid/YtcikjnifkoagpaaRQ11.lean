/- What the reference's Reap does to memory: two appends and a store. -/
import Derived.Test.YtcikjnifkoagpaaRQ2
namespace Go.Proofs.Ytcikjnifkoagpaa
open Go.RowKit Go.Shelf Go.Lib
theorem reF_one {l : Ps} {u : Value} (h : u ∈ reF l) : u.oneCell' = true := by
  obtain ⟨p, _, hu⟩ := List.mem_flatMap.1 h
  unfold reC at hu
  simp only [List.mem_cons, List.not_mem_nil, or_false] at hu
  rcases hu with rfl | rfl | rfl | rfl | rfl | rfl | rfl | rfl <;> rfl
/-- append of entries to a row that is owned. -/
theorem app_ents {W : World} {v : Value} {n d : Nat} {q : Option Addr} {xs : List Value} (c : Ps) (h : W.ownsRow 0 59 8 v n xs) (hs : c.length = 0 ∨ ∃ a, q = some a ∧ ∀ j u, (reF c)[j]? = some u → W.cell? (a.add j) = some u) (hn : n ≤ 100000) (hm : c.length ≤ 100000) :
    ∃ v' W', (Builtin.append_ #[60, 60] 60 #[v, .slice q c.length d]).run Try.prog W = .ok v' W' ∧ W'.ownsRow 0 59 8 v' (n + c.length) (xs ++ reF c) ∧ W.grownBy W' v.ownBlock ∧ (v'.ownBlock = v.ownBlock ∨ v'.ownBlock = some W.heap.size) ∧ ∃ p' c', v' = .slice p' (n + c.length) c' := by
  obtain ⟨i0, hi, hz0, hz1, hz2⟩ := info_parts infoE
  have shp : ∀ {V : World} {u : Value} {k : Nat} {zs : List Value}, V.ownsRow 0 59 8 u k zs → ∃ p' c', u = .slice p' k c' := fun {V u k zs} o => by
    rcases o.2 with ⟨e, e2⟩ | ⟨g, cp, cur, e, _⟩
    · exact ⟨none, 0, by rw [e2]; exact e⟩
    · exact ⟨_, _, e⟩
  by_cases hm0 : c.length = 0
  · obtain rfl : c = [] := List.eq_nil_of_length_eq_zero hm0
    have h' : W.ownsRow 0 59 8 v (n + 0) (xs ++ []) := by simpa using h
    refine ⟨v, W, ?_, h', ⟨rfl, rfl, rfl, Nat.le_refl _, fun _ _ _ => rfl⟩, .inl rfl, shp h'⟩
    rcases h.2 with ⟨rfl, e0⟩ | ⟨g, cap, cur, rfl, _, _, hle, _⟩
    · cases q <;> simp [Builtin.append_, run_underlying Try.underlying60, sizeOf, typeInfo, hi, Builtin.lenOf, Builtin.firstCells, loadCells, loadCellsFrom]
    · cases q <;> simp [Builtin.append_, run_underlying Try.underlying60, sizeOf, typeInfo, hi, Builtin.lenOf, Builtin.firstCells, loadCells, loadCellsFrom, storeCells, hle]
  · rcases hs with hs | ⟨a, rfl, hc⟩
    · exact absurd hs hm0
    · obtain ⟨v', W', hrun, hown, hgr, _, hat⟩ := run_append_own_at (P := Try.prog) W 0 60 60 59 i0 _ 8 72 Try.underlying60 hi hz0 hz1 hz2 rfl (by decide) v _ _ h a c.length d (reF c) (reF_len c) hc (fun u hu => reF_one hu) (by unfold maxLen; omega) (by omega) (Nat.zero_le _)
      exact ⟨v', W', hrun, hown, hgr, hat, shp hown⟩
/-- The row without the one behind a. -/
theorem RO.cut {W : World} {b g cap : Nat} {room last : Int} {a c : Ps} {p : Pr} (h : RO W b g cap room last (a ++ p :: c)) (ha : 1 ≤ a.length) :
    ∃ p2 cc2 W2, (Builtin.append_ #[60, 60] 60 #[.slice none 0 0, .slice (some ⟨g, 0, none⟩) a.length cap]).run Try.prog W = .ok (.slice p2 a.length cc2) W2 ∧ Mv (fun _ => False) W W2 ∧
      ∀ q d, (c.length = 0 ∨ q = some ⟨g, (a.length + 1) * 8, none⟩) → ∃ g3 cc3 W3, (Builtin.append_ #[60, 60] 60 #[.slice p2 a.length cc2, .slice q c.length d]).run Try.prog W2 = .ok (.slice (some ⟨g3, 0, none⟩) (a.length + c.length) cc3) W3 ∧ Mv (fun _ => False) W W3 ∧
        Rg b g W g3 cc3 room last (a ++ c) (W3.setCell ⟨b, 0, none⟩ (.slice (some ⟨g3, 0, none⟩) (a.length + c.length) cc3)) := by
  have hlen := h.len
  simp only [List.length_append, List.length_cons] at hlen
  have hcel : ∀ j u, (reF (a ++ p :: c))[j]? = some u → W.cell? ⟨g, j, none⟩ = some u := fun j u hj => by
    have := h.ow.cells (g := g) rfl j u hj
    rw [Addr.add_lit, Nat.zero_add] at this
    exact this
  have hF : reF (a ++ p :: c) = reF a ++ (reC p ++ reF c) := by rw [reF_app]; rfl
  rw [hF] at hcel
  obtain ⟨v2, W2, hrun2, own2, gr2, at2, p2, cc2, hv2⟩ := app_ents (W := W) (v := .slice none 0 0) (n := 0) (d := cap) (q := some ⟨g, 0, none⟩) (xs := []) a (World.ownsRow_nil _ _ _ _)
    (.inr ⟨_, rfl, fun j u hj => by
      rw [Addr.add_lit, Nat.zero_add]
      exact hcel j u (by rw [List.getElem?_append_left (List.getElem?_eq_some_iff.1 hj).1]; exact hj)⟩) (by omega) (by omega)
  have mv2 : Mv (fun _ => False) W W2 := (Mv.refl _ _).grown gr2 (fun k e => by cases e)
  rw [Nat.zero_add] at hv2 own2
  rw [List.nil_append] at own2
  subst hv2
  refine ⟨p2, cc2, W2, hrun2, mv2, fun q d hq => ?_⟩
  obtain ⟨v3, W3, hrun3, own3, gr3, at3, p3, cc3, hv3⟩ := app_ents (q := q) (d := d) c own2
    (by
      rcases hq with hq | hq
      · exact .inl hq
      · refine .inr ⟨_, hq, fun j u hj => ?_⟩
        rw [Addr.add_lit]
        refine mv2.cell (a := ⟨g, (a.length + 1) * 8 + j, none⟩) (fun h => h) (hcel _ u ?_)
        rw [List.getElem?_append_right (by rw [reF_len]; omega), List.getElem?_append_right (by rw [reF_len, reC_len]; omega), reF_len, reC_len, show (a.length + 1) * 8 + j - a.length * 8 - 8 = j by omega]
        exact hj) (by omega) (by omega)
  have hnew2 : ∀ k, (Value.slice p2 a.length cc2).ownBlock = some k → W.heap.size ≤ k := fun k hk => by
    rcases at2 with t | t
    · rw [t] at hk; cases hk
    · rw [hk] at t
      have : k = W.heap.size := by simpa using t
      omega
  have hsz2 := mv2.size
  have hnew3 : ∀ k, v3.ownBlock = some k → W.heap.size ≤ k := fun k hk => by
    rcases at3 with t | t
    · exact hnew2 k (by rw [← t]; exact hk)
    · rw [hk] at t
      have : k = W2.heap.size := by simpa using t
      omega
  have mv3 : Mv (fun _ => False) W W3 := by
    have x : Mv (fun k => (Value.slice p2 a.length cc2).ownBlock = some k) W2 W3 := (Mv.refl _ _).grown gr3 (fun k e => .inl (by rw [e]))
    exact ⟨x.os.trans mv2.os, x.tape.trans mv2.tape, x.output.trans mv2.output, Nat.le_trans mv2.size x.size, fun k hk _ => (x.block k (Nat.lt_of_lt_of_le hk mv2.size) (fun e => by have := hnew2 k e; omega)).trans (mv2.block k hk (fun h => h))⟩
  rcases own3.2 with ⟨_, e0⟩ | ⟨g3, cc3', cur, hv3', _, _⟩
  · omega
  subst hv3'
  have hg3 : W.heap.size ≤ g3 := hnew3 g3 rfl
  have hbl := h.ltb
  have m4 : Mv (fun k => k = b) W3 (W3.setCell ⟨b, 0, none⟩ (.slice (some ⟨g3, 0, none⟩) (a.length + c.length) cc3')) := (Mv.refl (fun k => k = b) _).setc (p := ⟨b, 0, none⟩) (.inl rfl) _
  have c03 := mv3.cell (a := ⟨b, 0, none⟩) (fun h => h) h.c0
  refine ⟨g3, cc3', W3, hrun3, mv3, ⟨⟨?_, (World.cell?_setCell_other _ _ _ _ (by simp)).trans (mv3.cell (a := ⟨b, 1, none⟩) (fun h => h) h.c1), (World.cell?_setCell_other _ _ _ _ (by simp)).trans (mv3.cell (a := ⟨b, 2, none⟩) (fun h => h) h.c2), fun j => (World.frozen?_setCell _ _ _ _).trans ((mv3.froz (a := ⟨b, j, none⟩) (fun h => h) hbl).trans (h.fz j)), ?_, by omega, by simp only [List.length_append]; omega⟩, (mv3.mono (fun k _ e => absurd e id)).trans' (m4.mono (fun k _ e => .inl e)), .inr hg3⟩⟩
  · rw [List.length_append]; exact World.cell?_setCell_same' _ _ _ (by rw [c03]; rfl)
  · rw [List.length_append, reF_app]
    exact own_mv own3 m4 (fun k hk e => by have := hnew3 k hk; omega)
end Go.Proofs.Ytcikjnifkoagpaa
