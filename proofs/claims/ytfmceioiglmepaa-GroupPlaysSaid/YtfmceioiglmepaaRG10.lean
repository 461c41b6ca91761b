/- The reference's Make of a new one. -/
import Derived.Test.YtfmceioiglmepaaRG9
namespace Go.Proofs.Ytfmceioiglmepaa
open Go.RowKit Go.Shelf Go.Lib
theorem lim_le (a b : Nat) : Nat.min (a + 1 - b) (a - b) = a - b := by
  show min (a + 1 - b) (a - b) = _
  omega
theorem own_cell {w : World} {base : Nat} {e : TypeId} {size n g cap j : Nat} {xs : List Value} (h : w.ownsRow base e size (.slice (some ⟨g, 0, none⟩) n cap) n xs) (hj : j < xs.length) : ∃ z, w.cell? ⟨g, j, none⟩ = some z := by
  have := h.cells (g := g) rfl j _ (List.getElem?_eq_getElem hj)
  rw [Addr.add_lit, Nat.zero_add] at this
  exact ⟨_, this⟩
set_option maxRecDepth 100000 in
set_option maxHeartbeats 800000 in
theorem rmake_ok (R : Rt) (s : ByteArray) (w : World) (h : Rs w R) (hl : R.l.length ≤ 1000) (hb : rmakeE R.l s = 0) :
    Calls Try.prog 9 #[.pointer (some ⟨R.b, 0, none⟩), .string s] w fun e w' => e = .returned (.int .i64 0) ∧ ∃ lv, RGoes R w { R with lv := lv, l := R.l.take (atP R.l s) ++ ⟨s, [], .slice none 0 0⟩ :: R.l.drop (atP R.l s) } w' := by
  have hs : s ≠ noName := fun e => by unfold rmakeE at hb; rw [if_pos e] at hb; cases hb
  have ht : thereR R.l s = false := by
    unfold rmakeE at hb
    rw [if_neg hs] at hb
    cases q : thereR R.l s with
    | false => rfl
    | true => rw [q] at hb; cases hb
  have hat := hidP (rat_any R s w h hl)
  rw [ht] at hat
  have hd := not_empty hs
  have hile := atP_le R.l s
  obtain ⟨i, hi⟩ : ∃ i, atP R.l s = i := ⟨_, rfl⟩
  rw [hi] at hat hile
  rw [hi]
  obtain ⟨n, hnn⟩ : ∃ n, R.l.length = n := ⟨_, rfl⟩
  rw [hnn] at hile hl
  have hnnH := hidP hnn
  have hH := hidP h
  clear h hb hs ht hi hnn
  go_enter Try.func9, Try.ntmps9
  go_wp2_with fail
  refine hat.out.mono ?_
  rintro e w1 ⟨rfl, hb1⟩
  clear hat
  have h1 := hH.out.below hb1
  have c0 := h1.c0
  obtain ⟨i0, hinf, hz0, hz1, hz2⟩ := infoG
  obtain ⟨W2, hW2⟩ : ∃ W2, w1.alloc (.cells #[.string ⟨#[]⟩, .slice none 0 0] 49) = W2 := ⟨_, rfl⟩
  have hb2 : Below w1.heap.size w1 W2 := by rw [← hW2]; exact (Below.refl _ _).alloc (Nat.le_refl _) _
  have h2 := h1.below hb2
  have hrow2 := h2.row
  rw [hnnH.out] at hrow2
  obtain ⟨v', W3, hrun, hown, hgr, _, hat2⟩ := run_append_own_at (P := Try.prog) W2 0 27 27 49 i0 (.agg #[.string ⟨#[]⟩, .slice none 0 0]) 2 40 Try.underlying27 hinf hz0 hz1 hz2 rfl (by decide) R.lv _ _ hrow2 ⟨w1.heap.size, 0, none⟩ 1 1 [.string ⟨#[]⟩, .slice none 0 0] rfl (fun j u hj => by
    rw [← hW2, Addr.add_lit]
    match j, hj with
    | 0, hj => simp at hj; subst hj; exact cell_at rfl rfl
    | 1, hj => simp at hj; subst hj; exact cell_at rfl rfl) (fun u hu => by simp at hu; rcases hu with rfl | rfl <;> rfl) (by unfold maxLen; omega) (by omega) (Nat.zero_le _)
  obtain ⟨g, cap, hv'⟩ := ownsRow_succ hown
  subst hv'
  have hg2 : g = g := rfl
  have mv3 : Mv (fun k => R.lv.ownBlock = some k) w W3 := ((Mv.below hb1).trans' (Mv.below hb2)).trans' ((Mv.refl _ _).grown hgr (fun k e => .inl (by rw [e])))
  have hbg : R.b ≠ g := fun e => by
    rcases hat2 with q | q
    · exact hH.out.n1 g (q.symm ▸ rfl) e.symm
    · have hbl := hH.out.lt (.inl rfl)
      have : g = W2.heap.size := by simpa [Value.ownBlock] using q
      have := hb1.size
      have := hb2.size
      omega
  have hnb : ¬ R.lv.ownBlock = some R.b := fun e => hH.out.n1 _ e rfl
  have c03 := mv3.cell (a := ⟨R.b, 0, none⟩) hnb hH.out.c0
  have c13 := mv3.cell (a := ⟨R.b, 1, none⟩) hnb hH.out.c1
  have f03 := (mv3.froz (a := ⟨R.b, 0, none⟩) hnb (cell_lt hH.out.c0)).trans hH.out.f0
  have f13 := (mv3.froz (a := ⟨R.b, 1, none⟩) hnb (cell_lt hH.out.c1)).trans hH.out.f1
  obtain ⟨W4, hW4⟩ : ∃ W4, W3.setCell ⟨R.b, 0, none⟩ (.slice (some ⟨g, 0, none⟩) (n + 1) cap) = W4 := ⟨_, rfl⟩
  have m4 : Mv (fun k => k = R.b) W3 W4 := by rw [← hW4]; exact (Mv.refl (fun k => k = R.b) _).setc (p := ⟨R.b, 0, none⟩) (.inl rfl) _
  have c04 : W4.cell? ⟨R.b, 0, none⟩ = some (.slice (some ⟨g, 0, none⟩) (n + 1) cap) := by rw [← hW4]; exact World.cell?_setCell_same' _ _ _ (by rw [c03]; rfl)
  have c14 : W4.cell? ⟨R.b, 1, none⟩ = some R.nv := by rw [← hW4]; exact (World.cell?_setCell_other _ _ _ _ (by simp)).trans c13
  have f04 : W4.frozen? ⟨R.b, 0, none⟩ = false := by rw [← hW4, World.frozen?_setCell]; exact f03
  have f14 : W4.frozen? ⟨R.b, 1, none⟩ = false := by rw [← hW4, World.frozen?_setCell]; exact f13
  have own4 : W4.ownsRow 0 49 2 (.slice (some ⟨g, 0, none⟩) (n + 1) cap) (n + 1) (cs2 R.l ++ [.string ⟨#[]⟩, .slice none 0 0]) := own_mv hown m4 (fun k hk e => by
    have : k = g := by simpa [Value.ownBlock] using hk.symm
    exact hbg (e.symm.trans this))
  have hncap : n + 1 ≤ cap ∧ cap ≤ maxLen := by
    rcases hown.2 with ⟨e, _⟩ | ⟨g3, cap3, cur, e, _, _, h5, h6, _⟩
    · cases e
    · injection e with _ _ e3
      rw [e3]; exact ⟨h5, h6⟩
  have hcapm : (cap : Int) ≤ 9223372036854775807 := by have := hncap.2; unfold maxLen at this; omega
  have l2 : (i : Int) ≤ (n : Int) + 1 := by omega
  have l3 : (i : Int) < (n : Int) + 1 := by omega
  have hi0 : (0 : Int) ≤ (i : Int) := by omega
  have hfz : Hid (∀ j, W4.frozen? ⟨g, j, none⟩ = false) := fun j => own_froz own4 rfl
  have hlen2 : Hid ((cs2 R.l ++ [.string ⟨#[]⟩, .slice none 0 0] : List Value).length = (n + 1) * 2) := own4.1
  have hcel : Hid (∀ j u, (cs2 R.l ++ [.string ⟨#[]⟩, .slice none 0 0] : List Value)[j]? = some u → W4.cell? ⟨g, j, none⟩ = some u) := fun j u hj => by
    have := own4.cells (g := g) rfl j u hj
    rw [Addr.add_lit, Nat.zero_add] at this
    exact this
  have hfin : Hid (∀ W5, Mv (fun k => k = g) W4 W5 → W5.ownsRow 0 49 2 (.slice (some ⟨g, 0, none⟩) (n + 1) cap) (n + 1) (setL (cs2 R.l ++ [.string ⟨#[]⟩, .slice none 0 0]) ((i + 1) * 2) ((cs2 R.l).drop (i * 2))) → RGoes R w { R with lv := .slice (some ⟨g, 0, none⟩) (n + 1) cap, l := R.l.take i ++ ⟨s, [], .slice none 0 0⟩ :: R.l.drop i } ((W5.setCell ⟨g, i * 2, none⟩ (.string s)).setCell ⟨g, i * 2 + 1, none⟩ (.slice none 0 0))) := fun W5 m5 o5 => by
    have o6 := own_set (own_set (j := i * 2) o5 (.string s)) (j := i * 2 + 1) (.slice none 0 0)
    rw [ins_cells R.l i (by have := hnnH.out; omega) (.string ⟨#[]⟩) (.slice none 0 0) ⟨s, [], .slice none 0 0⟩] at o6
    have m6 : Mv (fun k => k = g) W4 ((W5.setCell ⟨g, i * 2, none⟩ (.string s)).setCell ⟨g, i * 2 + 1, none⟩ (.slice none 0 0)) := (m5.setc (p := ⟨g, i * 2, none⟩) (.inl rfl) _).setc (p := ⟨g, i * 2 + 1, none⟩) (.inl rfl) _
    have hL : (R.l.take i ++ (⟨s, [], .slice none 0 0⟩ : RG) :: R.l.drop i).length = n + 1 := by have := hnnH.out; rw [List.length_append, List.length_cons, List.length_take, List.length_drop]; omega
    have hgB : R.lv.ownBlock = some g ∨ w.heap.size ≤ g := by
      rcases hat2 with t | t
      · exact .inl t.symm
      · have : g = W2.heap.size := by simpa [Value.ownBlock] using t
        have := hb1.size
        have := hb2.size
        exact .inr (by omega)
    refine hH.out.turnL ⟨m6.os.trans (m4.os.trans mv3.os), m6.tape.trans (m4.tape.trans mv3.tape), m6.output.trans (m4.output.trans mv3.output), Nat.le_trans mv3.size (Nat.le_trans m4.size m6.size), fun k hk hne => ?_⟩ (m6.cell hbg c04) (m6.cell hbg c14) ((m6.froz (a := ⟨R.b, 0, none⟩) hbg (cell_lt c04)).trans f04) ((m6.froz (a := ⟨R.b, 1, none⟩) hbg (cell_lt c14)).trans f14) (by rw [hL]; exact o6) (fun x hx => ?_) (fun k hk => ?_)
    · have h3 := mv3.block k hk (fun e => hne (.inr e))
      have h4 := m4.block k (Nat.lt_of_lt_of_le hk mv3.size) (fun e => hne (.inl e))
      have h5 := m6.block k (Nat.lt_of_lt_of_le hk (Nat.le_trans mv3.size m4.size)) (fun e => by
        rcases hgB with t | t
        · exact hne (.inr (by rw [e]; exact t))
        · omega)
      exact h5.trans (h4.trans h3)
    · rcases List.mem_append.1 hx with t | t
      · exact .inl (List.mem_of_mem_take t)
      · rcases List.mem_cons.1 t with t | t
        · rw [t]; exact .inr ⟨rfl, none, 0, rfl, .inl rfl⟩
        · exact .inl (List.mem_of_mem_drop t)
    · have : k = g := by simpa [Value.ownBlock] using hk.symm
      rw [this]; exact hgB
  have hone : Hid (∀ x ∈ R.l, x.v.oneCell' = true) := fun x hx => by obtain ⟨p, c, e, _⟩ := (hH.out.ps x hx).1; rw [e]; rfl
  clear hown hgr hat2 mv3 hnb c13 f13 m4 c14 f04 f14 hinf hz0 hz1 hz2 hrow2 h2 h1 hb1 hb2 hg2 hH
  have own4H := hidP own4
  clear own4
  rcases Nat.lt_or_ge i n with hlt | hge
  · have hqc : i + 1 < cap := by omega
    have hic : i < cap := by omega
    have hcopy := copy2 W4.drew g ((i + 1) * 2) (n - i) (cap - (i + 1)) ⟨g, i * 2, none⟩ (n + 1 - i) (cap - i) ((cs2 R.l).drop (i * 2)) 3 (by rw [List.length_drop, cs2_len, hnnH.out, lim_le n i]; omega)
      (fun j u hj => by
        rw [Addr.add_lit]
        rw [List.getElem?_drop] at hj
        have hlt2 := (List.getElem?_eq_some_iff.1 hj).1
        exact hcel.out _ _ (by rw [List.getElem?_append_left hlt2]; exact hj))
      (fun j hj => by
        rw [List.length_drop, cs2_len, hnnH.out] at hj
        have : (i + 1) * 2 + j < (cs2 R.l ++ [.string ⟨#[]⟩, .slice none 0 0] : List Value).length := by rw [hlen2.out]; omega
        show (W4.cell? _).isSome = true
        rw [hcel.out _ _ (List.getElem?_eq_getElem this)]; rfl)
      (fun j _ => hfz.out _)
      (fun u hu => by
        obtain ⟨x, hxm, hx⟩ := List.mem_flatMap.1 (List.mem_of_mem_drop hu)
        simp at hx
        rcases hx with rfl | rfl
        · rfl
        · exact hone.out x hxm)
    obtain ⟨k0, hk0⟩ : ∃ k0, Nat.min (n + 1 - i) (n - i) = k0 := ⟨_, rfl⟩
    rw [hk0] at hcopy
    unfold goInt at hcopy
    clear hk0
    obtain ⟨W5, hW5⟩ : ∃ W5, W4.drew.setCells g ((i + 1) * 2) ((cs2 R.l).drop (i * 2)) = W5 := ⟨_, rfl⟩
    rw [hW5] at hcopy
    have m5 : Mv (fun k => k = g) W4 W5 := by rw [← hW5]; exact (Mv.drew _ _).trans' (mv_sets _ _ _)
    have o5 := own_sets ((cs2 R.l).drop (i * 2)) _ ((i + 1) * 2) W4.drew own4H.out
    rw [hW5] at o5
    clear hW5
    have d0 := m5.cell (a := ⟨R.b, 0, none⟩) hbg c04
    obtain ⟨z0, hz0⟩ := own_cell o5 (j := i * 2) (by have := o5.1; omega)
    obtain ⟨z1, hz1⟩ := own_cell o5 (j := i * 2 + 1) (by have := o5.1; omega)
    have g0 : W5.frozen? ⟨g, i * 2, none⟩ = false := own_froz o5 rfl
    have g1 : W5.frozen? ⟨g, i * 2 + 1, none⟩ = false := own_froz o5 rfl
    have fin := hidP (hfin.out W5 m5 o5)
    clear hfin m5 o5 hcel hlen2 hfz own4H hone hnnH
    go_wp2_with (first | rw [hW4] | (at_builtin; refine wpList_append_run rfl _ _ 27 rfl _ _ _ _ rfl rfl hrun ?_))
    go_region
    go_wp2_with fail
    go_ret
    exact ⟨rfl, _, fin.out⟩
  · obtain rfl : i = n := by omega
    have hdr : (cs2 R.l).drop (i * 2) = [] := List.drop_eq_nil_of_le (by rw [cs2_len, hnnH.out]; exact Nat.le_refl _)
    rw [hdr] at hfin
    obtain ⟨W5, hW5⟩ : ∃ W5, W4.drew = W5 := ⟨_, rfl⟩
    have m5 : Mv (fun k => k = g) W4 W5 := by rw [← hW5]; exact Mv.drew _ _
    have o5 : W5.ownsRow 0 49 2 (.slice (some ⟨g, 0, none⟩) (i + 1) cap) (i + 1) (setL (cs2 R.l ++ [.string ⟨#[]⟩, .slice none 0 0]) ((i + 1) * 2) []) := by rw [← hW5]; exact own4H.out
    have hic : i < cap := by omega
    have hW5H := hidP hW5
    clear hdr hW5
    rcases Nat.lt_or_ge (i + 1) cap with hqc | hqc
    · have hcopy := copy2_none W4.drew (some ⟨g, (i + 1) * 2, none⟩) (some ⟨g, i * 2, none⟩) (cap - (i + 1)) 1 (cap - i) 3
      unfold goInt at hcopy
      have d0 := m5.cell (a := ⟨R.b, 0, none⟩) hbg c04
      obtain ⟨z0, hz0⟩ := own_cell o5 (j := i * 2) (by have := o5.1; omega)
      obtain ⟨z1, hz1⟩ := own_cell o5 (j := i * 2 + 1) (by have := o5.1; omega)
      have g0 : W5.frozen? ⟨g, i * 2, none⟩ = false := own_froz o5 rfl
      have g1 : W5.frozen? ⟨g, i * 2 + 1, none⟩ = false := own_froz o5 rfl
      have fin := hidP (hfin.out W5 m5 o5)
      clear hfin m5 o5 hcel hlen2 hfz own4H hone hnnH
      go_wp2_with (first | rw [hW4] | (at_builtin; refine wpList_append_run rfl _ _ 27 rfl _ _ _ _ rfl rfl hrun ?_))
      go_region
      rw [hW5H.out]
      go_wp2_with fail
      go_ret
      exact ⟨rfl, _, fin.out⟩
    · have hce : cap = i + 1 := by omega
      subst hce
      have hcopy := copy2_none W4.drew (some ⟨g, 0, none⟩) (some ⟨g, i * 2, none⟩) 0 1 1 3
      unfold goInt at hcopy
      have d0 := m5.cell (a := ⟨R.b, 0, none⟩) hbg c04
      obtain ⟨z0, hz0⟩ := own_cell o5 (j := i * 2) (by have := o5.1; omega)
      obtain ⟨z1, hz1⟩ := own_cell o5 (j := i * 2 + 1) (by have := o5.1; omega)
      have g0 : W5.frozen? ⟨g, i * 2, none⟩ = false := own_froz o5 rfl
      have g1 : W5.frozen? ⟨g, i * 2 + 1, none⟩ = false := own_froz o5 rfl
      have fin := hidP (hfin.out W5 m5 o5)
      clear hfin m5 o5 hcel hlen2 hfz own4H hone hnnH
      go_wp2_with (first | rw [hW4] | (at_builtin; refine wpList_append_run rfl _ _ 27 rfl _ _ _ _ rfl rfl hrun ?_))
      go_region
      rw [hW5H.out]
      go_wp2_with fail
      go_ret
      exact ⟨rfl, _, fin.out⟩
end Go.Proofs.Ytfmceioiglmepaa
