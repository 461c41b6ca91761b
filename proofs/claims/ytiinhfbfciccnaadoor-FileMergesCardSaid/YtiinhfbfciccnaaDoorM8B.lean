/- The contract of unitfile.Sections. -/
import Derived.Test.YtiinhfbfciccnaaDoorM7B
import Derived.Test.YtiinhfbfciccnaaDoorM4B
namespace Go.Proofs.YtiinhfbfciccnaaDoor
open Go.RowKit Go.Shelf Lin
attribute [local go_sem] Oper.semAt_some
/-- The names so far. -/
structure SI (b : Nat) (v : Value) (acc : List ByteArray) (W : World) : Prop where
  cl : Cl b v W
  ow : W.ownsRow (b + 1) 9 1 v acc.length (acc.map Value.string)
theorem SI.mv {b : Nat} {v : Value} {acc : List ByteArray} {E : Nat → Prop} {W V : World} (h : SI b v acc W) (m : Mv E W V) (hE : ∀ k, Ow b v k → ¬ E k) : SI b v acc V :=
  ⟨h.cl.mv m (hE _ (.inl rfl)), own_mv h.ow m (fun g hg => hE g (.inr hg))⟩
def SJ (b : Nat) (T : List ByteArray) (rest : Gs) (E : Nat → Prop) (W : World) : Prop := ∃ v acc, ((∀ k, E k ↔ Ow b v k) ∧ Hid (acc ++ rest.map Prod.fst = T)) ∧ SI b v acc W
theorem SJ.ter (b B : Nat) (T : List ByteArray) : Ter B (SJ b T) := by
  refine ⟨?_, ?_⟩
  · rintro s E W V ⟨v, x, ⟨hE, h⟩, hb⟩ m
    exact ⟨v, x, ⟨hE, h⟩, hb.mv m (fun k hk h => h.1 ((hE k).2 hk))⟩
  · rintro s E W ⟨v, x, ⟨hE, h⟩, hb⟩ k hk
    rcases (hE k).1 hk with rfl | hk
    · exact hb.cl.lt
    · exact (hb.ow.lt k hk).2
/-- What Sections gives. -/
def SecP (zs : List ByteArray) (w : World) (e : Ending) (w' : World) : Prop := ∃ bb az gz cz, e = .returned (.func (.func 45) #[] #[.pointer (some ⟨bb, 0, none⟩)]) ∧ w.heap.size ≤ bb ∧ w'.cell? ⟨bb, 0, none⟩ = some (.slice az zs.length cz) ∧ (0 < zs.length → az = some ⟨gz, 0, none⟩ ∧ w.heap.size ≤ gz) ∧ (∀ j s, zs[j]? = some s → w'.cell? ⟨gz, j, none⟩ = some (.string s)) ∧ Below w.heap.size w w'
set_option maxRecDepth 100000 in
set_option maxHeartbeats 8000000 in
theorem sections_any (v : Value) (l : List St) (w : World) (hs : SlIs (fun _ => False) w v l) (hl : l.length ≤ 1000000) (hz : ∀ x ∈ l, x.s.size ≤ 1000000000) :
    Calls Tryd.prog 19 #[.agg #[v]] w (SecP (secs l) w) := by
  obtain ⟨T, hT⟩ : ∃ T, secs l = T := ⟨_, rfl⟩
  have hTl : T.length ≤ 1000000 := by rw [← hT]; have := addS_fold_len l []; unfold secs; simp only [List.length_nil] at this; omega
  have hTH : Hid ((groups l).map Prod.fst = T) := by show _ = _; rw [groups_secs, hT]
  rw [hT]
  obtain ⟨j0, jinf, jz0, jz1, jz2⟩ := info_parts infoS
  obtain ⟨a, c, rfl, hs1⟩ := hs
  have hsl0 : SlIs (fun _ => False) w (.slice a l.length c) l := ⟨a, c, rfl, hs1⟩
  obtain ⟨n, hn⟩ : ∃ n, l.length = n := ⟨_, rfl⟩
  rw [hn] at hsl0 ⊢
  have hN : Hid (l.length = n) := hn
  obtain ⟨W0, hW0⟩ : ∃ W0, (w.alloc (.cells #[.slice a n c] 25)).alloc (.cells #[.slice none 0 0] 38) = W0 := ⟨_, rfl⟩
  have hs0 : W0.heap.size = w.heap.size + 2 := by rw [← hW0]; simp
  have m0 : ∀ F : Nat → Prop, Mv F w W0 := fun F => by rw [← hW0]; exact (Mv.alloc _ _ _).trans' (Mv.alloc _ _ _)
  have hB0 : SI (w.heap.size + 1) (.slice none 0 0) [] W0 := by
    refine ⟨?_, World.ownsRow_nil _ _ _ _⟩
    rw [← hW0]
    refine ⟨cell_at (by simp) rfl, ?_⟩
    simp
  have q0 : W0.cell? ⟨w.heap.size, 0, none⟩ = some (.slice a n c) := by rw [← hW0]; exact (Mv.alloc (fun _ => False) _ _).cell (fun h => h) (cell_at rfl rfl)
  clear hT hs1 hn
  refine (callsIn_wide (n := 5)).1 ?_
  refine callsIn_of_wp_marks Tryd.func19 rfl trivial ?_ rfl
  simp only [Tryd.ntmps19, List.size_toArray, List.length_cons, List.length_nil, Nat.reduceAdd, Nat.reduceSub, Array.replicate_succ, Array.replicate_zero, List.push_toArray, List.append_toArray, List.nil_append, List.cons_append]
  gi_wp2_with (rw [hW0])
  clear hW0
  refine ⟨trivial, (callsIn_wide.2 (parts_any a n c W0)).mono ?_⟩
  rintro e W1 ⟨rfl, hW1⟩
  have m1 : ∀ F : Nat → Prop, Mv F W0 W1 := fun F => by rw [hW1]; exact Mv.alloc _ _ _
  have hs1 : W1.heap.size = w.heap.size + 3 := by rw [hW1]; simp [hs0]
  have cs1 : W1.cell? ⟨w.heap.size + 2, 0, none⟩ = some (.slice a n c) := by rw [hW1, ← hs0]; exact cell_at rfl rfl
  clear hW1
  obtain ⟨E, hE⟩ : ∃ E : Nat → Prop, ∀ k, E k ↔ Ow (w.heap.size + 1) (.slice none 0 0) k := ⟨_, fun _ => Iff.rfl⟩
  have nE : ∀ k, k ≠ w.heap.size + 1 → ¬ E k := fun k hk h => by
    rcases (hE k).1 h with q | q
    · exact hk q
    · simp [Value.ownBlock] at q
  have hslE : SlIs E W1 (.slice a n c) l := by
    obtain ⟨a', c', hv, h1⟩ := hsl0
    refine SlIs.mv (E := E) (W := w) ⟨a', c', hv, fun h0 => ?_⟩ ((m0 _).trans' (m1 _)) (Gr.refl _ _)
    obtain ⟨g, o, e1, _, e2⟩ := h1 h0
    have hgl : g < w.heap.size := cell_lt (e2 0 _ (List.getElem?_eq_getElem h0)).c0
    exact ⟨g, o, e1, nE _ (by omega), e2⟩
  have hrow := parts1_row l (w.heap.size + 2) (.slice a n c) E W1 cs1 (nE _ (by omega)) hslE hl hz
  have tI : Ter W1.heap.size (SJ (w.heap.size + 1) T) := SJ.ter _ _ _
  have h0I : SJ (w.heap.size + 1) T (groups l) E W1 := ⟨_, [], ⟨hE, hTH⟩, hB0.mv (m1 (fun _ => False)) (fun _ _ h => h)⟩
  gi_wp2_with fail
  refine loop_outR (gf := 42) (lb := #[.pointer (some ⟨w.heap.size + 2, 0, none⟩)]) rfl (enters_of Tryd.func42 (by kernel_rfl) rfl) hrow GrpR.size GrpR.anti (SJ (w.heap.size + 1) T) MX tI (MX.ter _) h0I ?round ?done ?stop
  case stop => rintro D c' E2 U _ _ _ _ _ h; exact h.elim
  case round =>
    rintro l1 hl1 ⟨nm, ls⟩ rest E2 U args hi ⟨sv, rfl, hsv⟩ hm hgr hEl hrec
    simp only at hsv
    obtain ⟨a2, c2, rfl, _⟩ := id hsv
    gi_wp2
    refine ⟨⟨Mv.refl _ _, trivial⟩, fun U2 tw => ?_⟩
    obtain ⟨hi2, hm2⟩ := tw.go tI hi (Mv.refl _ _) hm (Nat.le_refl _) (by omega) hEl
    obtain ⟨v, acc, ⟨hE2, hx⟩, hB⟩ := hi2
    have hal : acc.length ≤ 1000000 := by
      have := congrArg List.length hx.out
      simp only [List.length_append] at this
      omega
    have hx2 : Hid ((acc ++ [nm]) ++ rest.map Prod.fst = T) := by show _ = _; rw [← hx.out]; simp
    have a0 := hB.cl.c
    have hr1 := hB.ow.alloc (.cells #[.string nm] 9)
    have hBlt := hB.cl.lt
    clear hi hm tw hsv hrec hx
    gi_wp2_with (gi_at_builtin; refine wpListIn_append_own_at _ rfl _ _ 38 rfl (w.heap.size + 1 + 1) 9 j0 (.string ⟨#[]⟩) 1 16 Tryd.underlying38 jinf jz0 jz1 jz2 rfl (by decide) _ _ _ rfl hr1 ⟨U2.heap.size, 0, none⟩ 1 1 [.string nm] rfl rfl (row_news1 U2 _ _) (fun x hx => by simp at hx; subst hx; rfl) (by unfold maxLen; omega) (by omega) (by simp; omega) ?_)
    intro v' w4 hown' hgrow _ hat
    have mg : Mv (fun k => v.ownBlock = some k) U2 w4 := (Mv.alloc _ _ _).grown hgrow (fun k e => .inl e)
    have c4 := hB.cl.mv mg (fun e => by have := (hB.ow.lt _ e).1; omega)
    obtain ⟨w5, hw5⟩ : ∃ w5, w4.setCell ⟨w.heap.size + 1, 0, none⟩ v' = w5 := ⟨_, rfl⟩
    have mset : Mv (fun k => k = w.heap.size + 1) w4 w5 := by rw [← hw5]; exact Mv.set1 (E := fun k => k = w.heap.size + 1) rfl _
    have c5 : Cl (w.heap.size + 1) v' w5 := by rw [← hw5]; exact c4.set v'
    have hSI : SI (w.heap.size + 1) v' (acc ++ [nm]) w5 := ⟨c5, by
      have := own_mv hown' mset (fun g hg e => by have := (hown'.lt g hg).1; omega)
      simpa using this⟩
    have m5 : Mv E2 U2 w5 := (mg.mono (fun k _ e => (hE2 k).2 (.inr e))).trans' (mset.mono (fun k _ e => (hE2 k).2 (.inl e)))
    have hEo : ∀ q, Ow (w.heap.size + 1) v' q → E2 q ∨ U2.heap.size ≤ q := fun q hq => by
      rcases hq with h | h
      · exact .inl ((hE2 q).2 (.inl h))
      · rcases hat with e | e
        · exact .inl ((hE2 q).2 (.inr (e ▸ h)))
        · rw [h] at e; cases e; right; simp
    obtain ⟨gg, cap', rfl⟩ := ownsRow_succ hown'
    have g0 := c4.c
    have g1 := c4.f
    gi_wp2_with (rw [hw5])
    exact ⟨m5, _, hEo, _, acc ++ [nm], ⟨fun _ => Iff.rfl, hx2⟩, hSI⟩
  case done =>
    rintro D E2 U hD hK hnD hm hgr ⟨v, x, ⟨hE2, hx⟩, hB⟩
    have hxT : Hid (x = T) := by show _ = _; have := hx.out; simpa using this
    have hxe := hxT.out
    subst hxe
    obtain ⟨az, gz, cz, rfl, hz1, hz2⟩ := own_strs hB.ow
    have a0 := hB.cl.c
    have hbU : Below w.heap.size w U := (((m0 (fun _ => False)).trans' (m1 _)).toBelow (Nat.le_refl _) (fun _ _ h => h)).trans (hm.toBelow (by omega) (fun k hk h => nE k (by omega) h))
    have hsv := svals_any az x.length cz U
    have hsvH : Hid (Calls Tryd.prog 34 #[.slice az x.length cz] U fun e w' => e = .returned (.func (.func 45) #[] #[.pointer (some ⟨U.heap.size, 0, none⟩)]) ∧ w' = U.alloc (.cells #[.slice az x.length cz] 38)) := hsv
    clear hsv
    gi_wp2_with fail
    refine ⟨trivial, (callsIn_wide.2 hsvH.out).mono ?_⟩
    rintro e U2 ⟨rfl, hU2⟩
    dsimp only
    have m2 : Mv (fun _ => False) U U2 := by rw [hU2]; exact Mv.alloc _ _ _
    have cb : U2.cell? ⟨U.heap.size, 0, none⟩ = some (.slice az x.length cz) := by rw [hU2]; exact cell_at rfl rfl
    have hK2 : U2.heap[D]? = some (.deferred (some [])) := (m2.block D (lt_of_heap hK) (fun h => h)).trans hK
    have hDl := lt_of_heap hK
    clear hU2
    gi_wp2_with fail
    refine ⟨by simp, .inl ⟨_, _, rfl, run_takeDeferred hK2, ?_⟩⟩
    have mP : Mv (fun k => k = D) U2 (U2.putObj D (.deferred none)) := Mv.put (E := fun k => k = D) rfl _
    refine ⟨.func (.func 45) #[] #[.pointer (some ⟨U.heap.size, 0, none⟩)], by simp [results, Tryd.results19, go_sem], ?_⟩
    refine ⟨U.heap.size, az, gz, cz, rfl, hbU.size, mP.cell (show ¬ U.heap.size = D by omega) cb, fun h => ⟨(hz1 h).1, by have := (hz1 h).2; omega⟩, fun j s hj => ?_, (hbU.trans (m2.toBelow hbU.size (fun _ _ h => h))).trans (mP.toBelow (by have := hbU.size; have := m2.size; omega) (fun k hk e => by omega))⟩
    have h3 := hz2 j s hj
    refine mP.cell (fun e => ?_) (m2.cell (fun h => h) h3)
    dsimp only at e
    subst e
    unfold World.cell? at h3
    rw [hK] at h3
    cases h3
end Go.Proofs.YtiinhfbfciccnaaDoor
