/- The reference's Remove. -/
import Derived.Test.YtfmceioiglmepaaRG10
import Derived.Deep.RegionLaw
namespace Go.Proofs.Ytfmceioiglmepaa
open Go.RowKit Go.Shelf Go.Lib
/-- append of groups to a row that is owned. -/
theorem app_groups {W : World} {v : Value} {n m c : Nat} {p : Option Addr} {xs ys : List Value} (h : W.ownsRow 0 49 2 v n xs) (hy : ys.length = m * 2) (hs : m = 0 ∨ ∃ a, p = some a ∧ ∀ j u, ys[j]? = some u → W.cell? (a.add j) = some u) (h1 : ∀ u ∈ ys, u.oneCell' = true) (hn : n ≤ 100000) (hm : m ≤ 100000) :
    ∃ v' W', (Builtin.append_ #[27, 27] 27 #[v, .slice p m c]).run Try.prog W = .ok v' W' ∧ W'.ownsRow 0 49 2 v' (n + m) (xs ++ ys) ∧ W.grownBy W' v.ownBlock ∧ (v'.ownBlock = v.ownBlock ∨ v'.ownBlock = some W.heap.size) ∧ ∃ p' c', v' = .slice p' (n + m) c' := by
  obtain ⟨i0, hi, hz0, hz1, hz2⟩ := infoG
  have shp : ∀ {V : World} {u : Value} {k : Nat} {zs : List Value}, V.ownsRow 0 49 2 u k zs → ∃ p' c', u = .slice p' k c' := fun {V u k zs} o => by
    rcases o.2 with ⟨e, e2⟩ | ⟨g, cp, cur, e, _⟩
    · exact ⟨none, 0, by rw [e2]; exact e⟩
    · exact ⟨_, _, e⟩
  by_cases hm0 : m = 0
  · subst hm0
    obtain rfl : ys = [] := List.eq_nil_of_length_eq_zero (by omega)
    have h' : W.ownsRow 0 49 2 v (n + 0) (xs ++ []) := by simpa using h
    refine ⟨v, W, ?_, h', ⟨rfl, rfl, rfl, Nat.le_refl _, fun _ _ _ => rfl⟩, .inl rfl, shp h'⟩
    rcases h.2 with ⟨rfl, e0⟩ | ⟨g, cap, cur, rfl, _, _, hle, _⟩
    · cases p <;> simp [Builtin.append_, run_underlying Try.underlying27, sizeOf, typeInfo, hi, Builtin.lenOf, Builtin.firstCells, loadCells, loadCellsFrom]
    · cases p <;> simp [Builtin.append_, run_underlying Try.underlying27, sizeOf, typeInfo, hi, Builtin.lenOf, Builtin.firstCells, loadCells, loadCellsFrom, storeCells, hle]
  · rcases hs with hs | ⟨a, rfl, hc⟩
    · exact absurd hs hm0
    · obtain ⟨v', W', hrun, hown, hgr, _, hat⟩ := run_append_own_at (P := Try.prog) W 0 27 27 49 i0 (.agg #[.string ⟨#[]⟩, .slice none 0 0]) 2 40 Try.underlying27 hi hz0 hz1 hz2 rfl (by decide) v _ _ h a m c ys hy hc h1 (by unfold maxLen; omega) (by omega) (Nat.zero_le _)
      exact ⟨v', W', hrun, hown, hgr, hat, shp hown⟩
theorem step_append_run {P : Program} {w : World} {ops : Array Oper} {o : Oper} {a : Act} {K : Act → World → Prop} {Q : Exit → Act → World → Prop} {E : Prop} (hgd : o.guard = none) (s x : Operand) (t : TypeId)
    (ho : o.op = .call { callee := .builtin .append, args := #[s, x], argTypes := #[t, t] }) (v xv v' : Value) (w' : World) (hs : a.eval s = v) (hx : a.eval x = xv)
    (hr : (Builtin.append_ #[t, t] o.type #[v, xv]).run P w = .ok v' w') (h : K (a.put o.dst v') w') : if Region.wanted o (yielded ops a.tmps) = true then Oper.wp P o a w K Q else E := by
  have hw : Region.wanted o (yielded ops a.tmps) = true := by simp [Region.wanted, hgd]
  rw [if_pos hw]
  unfold Oper.wp execOp
  simp only [ho, resolve, invoke, builtin, Sem.run_bind, Sem.run_pure, Result.andThen_ok, List.map_toArray, List.map_cons, List.map_nil, hs, hx, hr]
  exact h
def rremE (l : List RG) (s : ByteArray) : Int := if thereR l s then (if mOfR l s = [] then 0 else 91) else 90
set_option maxRecDepth 100000 in
set_option maxHeartbeats 800000 in
theorem rremove_ok (R : Rt) (s : ByteArray) (i : Nat) (x : RG) (w : World) (h : Rs w R) (hl : R.l.length ≤ 1000) (hn : R.ns.length ≤ 1000) (ht : thereR R.l s = true) (hi : atP R.l s = i) (hx : R.l[i]? = some x) (hp : x.ps = []) :
    Calls Try.prog 11 #[.pointer (some ⟨R.b, 0, none⟩), .string s] w fun e w' => e = .returned (.int .i64 0) ∧ ∃ lv nv, RGoes R w { R with lv := lv, nv := nv, l := R.l.eraseIdx i, ns := remN R.ns s } w' := by
  have hat := hidP (rat_any R s w h hl)
  rw [ht, hi] at hat
  obtain ⟨n, hnn⟩ : ∃ n, R.l.length = n := ⟨_, rfl⟩
  have hil : i < n := by rw [← hnn]; exact (List.getElem?_eq_some_iff.1 hx).1
  have hiI : (i : Int) < (n : Int) := by omega
  have hiJ : (i : Int) ≤ (n : Int) := by omega
  have hi1 : (i : Int) + 1 ≤ (n : Int) := by omega
  rw [hnn] at hl
  have hnnH := hidP hnn
  have hH := hidP h
  have hxH := hidP hx
  have hpH := hidP hp
  clear h hi hnn hx hp ht
  go_enter Try.func11, Try.ntmps11
  go_wp2_with fail
  refine hat.out.mono ?_
  rintro e w1 ⟨rfl, hb1⟩
  clear hat
  have h1 := hH.out.below hb1
  obtain ⟨g, cap, e1, _, e3⟩ := h1.at hxH.out
  have c0 := h1.c0
  rw [e1, hnnH.out] at c0
  have hIR := (h1.ps x (List.mem_of_getElem? hxH.out)).1
  obtain ⟨q, d, hv, _⟩ := hIR
  rw [hv, hpH.out] at e3
  simp only [List.length_nil] at e3
  have hrow := h1.row
  rw [e1, hnnH.out] at hrow
  have hncap : n ≤ cap ∧ cap ≤ maxLen := by
    rcases hrow.2 with ⟨e, _⟩ | ⟨g3, cap3, cur, e, _, _, h5, h6, _⟩
    · cases e
    · injection e with _ _ e3
      rw [e3]; exact ⟨h5, h6⟩
  have hcapm : (cap : Int) ≤ 9223372036854775807 := by have := hncap.2; unfold maxLen at this; omega
  have hcel : ∀ j u, (cs2 R.l)[j]? = some u → w1.cell? ⟨g, j, none⟩ = some u := fun j u hj => by
    have := hrow.cells (g := g) rfl j u hj
    rw [Addr.add_lit, Nat.zero_add] at this
    exact this
  have hone : ∀ u ∈ cs2 R.l, u.oneCell' = true := fun u hu => by
    obtain ⟨y, hym, hy⟩ := List.mem_flatMap.1 hu
    simp at hy
    rcases hy with rfl | rfl
    · rfl
    · obtain ⟨p, c, e, _⟩ := (hH.out.ps y hym).1; rw [e]; rfl
  obtain ⟨v2, W2, hrun2, own2, gr2, at2, p2, cc2, hv2⟩ := app_groups (W := w1.drew) (v := .slice none 0 0) (n := 0) (m := i) (c := cap) (p := some ⟨g, 0, none⟩) (xs := []) (ys := (cs2 R.l).take (i * 2)) (World.ownsRow_nil _ _ _ _) (by rw [List.length_take, cs2_len, hnnH.out]; omega)
    (.inr ⟨_, rfl, fun j u hj => by
      rw [Addr.add_lit, Nat.zero_add]
      have hj2 : (cs2 R.l)[j]? = some u := by
        rw [List.getElem?_take] at hj
        split at hj
        · exact hj
        · cases hj
      exact hcel j u hj2⟩) (fun u hu => hone u (List.mem_of_mem_take hu)) (by omega) (by omega)
  have mv2 : Mv (fun _ => False) w1 W2 := (Mv.drew _ _).trans' ((Mv.refl _ _).grown gr2 (fun k e => by cases e))
  rw [Nat.zero_add] at hv2 own2
  rw [List.nil_append] at own2
  subst hv2
  have hcel2 : ∀ j u, (cs2 R.l)[j]? = some u → W2.cell? ⟨g, j, none⟩ = some u := fun j u hj => mv2.cell (a := ⟨g, j, none⟩) (fun h => h) (hcel j u hj)
  have hnx : Hid (∀ p c, (n - (i + 1) = 0 ∨ p = some ⟨g, (i + 1) * 2, none⟩) → ∃ v3 W3, (Builtin.append_ #[27, 27] 27 #[.slice p2 i cc2, .slice p (n - (i + 1)) c]).run Try.prog W2 = .ok v3 W3 ∧ W3.cell? ⟨R.b, 0, none⟩ = some (.slice (some ⟨g, 0, none⟩) n cap) ∧ W3.frozen? ⟨R.b, 0, none⟩ = false ∧ (∃ p' n' c', v3 = .slice p' n' c') ∧ RGoes R w { R with lv := v3, l := R.l.eraseIdx i } (W3.setCell ⟨R.b, 0, none⟩ v3)) := fun p c hp => by
    obtain ⟨v3, W3, hrun3, own3, gr3, at3, p3, cc3, hv3⟩ := app_groups (p := p) (c := c) (m := n - (i + 1)) (ys := (cs2 R.l).drop ((i + 1) * 2)) own2 (by rw [List.length_drop, cs2_len, hnnH.out]; omega)
      (by
        rcases hp with hp | hp
        · exact .inl hp
        · exact .inr ⟨_, hp, fun j u hj => by
            rw [Addr.add_lit]
            rw [List.getElem?_drop] at hj
            exact hcel2 _ u hj⟩) (fun u hu => hone u (List.mem_of_mem_drop hu)) (by omega) (by omega)
    have hnew2 : ∀ k, (Value.slice p2 i cc2).ownBlock = some k → w1.heap.size ≤ k := fun k hk => by
      rcases at2 with t | t
      · rw [t] at hk; cases hk
      · rw [hk] at t
        have : k = w1.heap.size := by simpa using t
        omega
    have hsz2 := mv2.size
    have hnew3 : ∀ k, v3.ownBlock = some k → w1.heap.size ≤ k := fun k hk => by
      rcases at3 with t | t
      · exact hnew2 k (by rw [← t]; exact hk)
      · rw [hk] at t
        have : k = W2.heap.size := by simpa using t
        omega
    have mv3 : Mv (fun _ => False) w W3 := by
      have a : Mv (fun k => (Value.slice p2 i cc2).ownBlock = some k) W2 W3 := (Mv.refl _ _).grown gr3 (fun k e => .inl (by rw [e]))
      have b := (Mv.below (E := fun _ => False) hb1).trans' mv2
      exact ⟨a.os.trans b.os, a.tape.trans b.tape, a.output.trans b.output, Nat.le_trans b.size a.size, fun k hk _ => (a.block k (Nat.lt_of_lt_of_le hk b.size) (fun e => by have := hnew2 k e; have := hb1.size; omega)).trans (b.block k hk (fun h => h))⟩
    have c03 := mv3.cell (a := ⟨R.b, 0, none⟩) (fun h => h) hH.out.c0
    have c13 := mv3.cell (a := ⟨R.b, 1, none⟩) (fun h => h) hH.out.c1
    have f03 := (mv3.froz (a := ⟨R.b, 0, none⟩) (fun h => h) (cell_lt hH.out.c0)).trans hH.out.f0
    have f13 := (mv3.froz (a := ⟨R.b, 1, none⟩) (fun h => h) (cell_lt hH.out.c1)).trans hH.out.f1
    have m4 : Mv (fun k => k = R.b) W3 (W3.setCell ⟨R.b, 0, none⟩ v3) := (Mv.refl (fun k => k = R.b) _).setc (p := ⟨R.b, 0, none⟩) (.inl rfl) _
    have hbl := hH.out.lt (.inl rfl)
    refine ⟨v3, W3, hrun3, by rw [c03, e1, hnnH.out], f03, ⟨_, _, _, hv3⟩, hH.out.turnL ((mv3.mono (fun k _ e => absurd e id)).trans' (m4.mono (fun k _ e => .inl e))) (World.cell?_setCell_same' _ _ _ (by rw [c03]; rfl)) ((World.cell?_setCell_other _ _ _ _ (by simp)).trans c13) (by rw [World.frozen?_setCell]; exact f03) (by rw [World.frozen?_setCell]; exact f13) ?_ (fun y hy => .inl (List.mem_of_mem_eraseIdx hy)) (fun k hk => .inr (Nat.le_trans hb1.size (hnew3 k hk)))⟩
    have hle : (R.l.eraseIdx i).length = i + (n - (i + 1)) := by rw [List.length_eraseIdx_of_lt (by rw [hnnH.out]; exact hil), hnnH.out]; omega
    have hcs : cs2 (R.l.eraseIdx i) = (cs2 R.l).take (i * 2) ++ (cs2 R.l).drop ((i + 1) * 2) := by rw [List.eraseIdx_eq_take_drop_succ, cs2_app, cs2_take, cs2_drop]
    rw [hle, hcs]
    exact own_mv own3 m4 (fun k hk e => by have := hnew3 k hk; have := hb1.size; omega)
  have c02 := mv2.cell (a := ⟨R.b, 0, none⟩) (fun h => h) c0
  have c0d : w1.drew.cell? ⟨R.b, 0, none⟩ = some (.slice (some ⟨g, 0, none⟩) n cap) := c0
  clear own2 gr2 at2 mv2 hcel hcel2 hone hrow h1 hb1 e1 hv hxH hpH
  obtain ⟨q1, hq1⟩ : ∃ q1, i + 1 = q1 := ⟨_, rfl⟩
  rw [hq1] at hnx
  have hwq : IntKind.i64.wrap ((i : Int) + 1) = (q1 : Int) := by rw [IntKind.wrap_i64]; omega
  have l1 : (q1 : Int) ≤ (n : Int) := by omega
  have l0 : (0 : Int) ≤ (q1 : Int) := by omega
  have hic : i ≤ cap := by omega
  have hin : (i : Int) ≤ (cap : Int) := by omega
  have hqn : q1 ≤ n := by omega
  have hqcap : q1 ≤ cap := by omega
  have hq1H := hidP hq1
  clear hq1
  rcases Nat.lt_or_ge q1 cap with hqc | hqc
  · have hne : ¬ cap = q1 := by omega
    obtain ⟨v3, W3, hrun3, c03, f03, ⟨p', n', c', hv3⟩, hG⟩ := hnx.out (some ⟨g, q1 * 2, none⟩) (cap - q1) (.inr rfl)
    subst hv3
    obtain ⟨W4, hW4⟩ : ∃ W4, W3.setCell ⟨R.b, 0, none⟩ (.slice p' n' c') = W4 := ⟨_, rfl⟩
    rw [hW4] at hG
    have hGH := hidP hG
    have hfo := hidP (rforget_any _ s W4 hG.r hn)
    simp only at hfo
    clear hnx hG
    go_wp2_with fail
    go_region_law (first | (refine step_append_run (by rfl) _ _ 27 (by rfl) (.slice none 0 0) (.slice (some ⟨g, 0, none⟩) i cap) _ _ (by rfl) (by rfl) hrun2 ?_) | (refine step_append_run (by rfl) _ _ 27 (by rfl) _ _ _ _ (by rfl) (by rfl) hrun3 ?_))
    all_goals
      go_wp2_with fail
      refine hfo.out.mono ?_
      rintro e W5 ⟨rfl, nv, hg5⟩
      have fin := hidP (hGH.out.trans hg5)
      clear hg5
      go_wp2_with fail
      go_ret
      exact ⟨rfl, _, nv, fin.out⟩
  · have hce : cap = q1 := by omega
    have hnq : n = q1 := by omega
    subst hce
    subst hnq
    obtain ⟨v3, W3, hrun3, c03, f03, ⟨p', n', c', hv3⟩, hG⟩ := hnx.out (some ⟨g, 0, none⟩) (0) (.inl (by omega))
    rw [Nat.sub_self] at hrun3
    subst hv3
    obtain ⟨W4, hW4⟩ : ∃ W4, W3.setCell ⟨R.b, 0, none⟩ (.slice p' n' c') = W4 := ⟨_, rfl⟩
    rw [hW4] at hG
    have hGH := hidP hG
    have hfo := hidP (rforget_any _ s W4 hG.r hn)
    simp only at hfo
    clear hnx hG
    go_wp2_with fail
    go_region_law (first | (refine step_append_run (by rfl) _ _ 27 (by rfl) (.slice none 0 0) (.slice (some ⟨g, 0, none⟩) i n) _ _ (by rfl) (by rfl) hrun2 ?_) | (refine step_append_run (by rfl) _ _ 27 (by rfl) (.slice p2 i cc2) (.slice (some ⟨g, 0, none⟩) 0 0) _ _ (by rfl) (by rfl) hrun3 ?_))
    all_goals
      go_wp2_with fail
      refine hfo.out.mono ?_
      rintro e W5 ⟨rfl, nv, hg5⟩
      have fin := hidP (hGH.out.trans hg5)
      clear hg5
      go_wp2_with fail
      go_ret
      exact ⟨rfl, _, nv, fin.out⟩
end Go.Proofs.Ytfmceioiglmepaa
