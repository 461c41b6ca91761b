/- The reference's Connect. -/
import Derived.Test.YtppbdamlhcmlcaaRD
import Derived.Test.YtppbdamlhcmlcaaRZ
namespace Go.Proofs.Ytppbdamlhcmlcaa
open Go.RowKit Go.Shelf Go.Lib
/-- append to a row that has no room. -/
theorem QS.grow {t e : TypeId} (T : TyQ t e) {w : World} {v : Value} {xs : List Pr} (h : QS w v xs) {p : Option Addr} {c0 : Nat} (hv : v = .slice p xs.length c0) {a : Addr} {x : Pr} {c : Nat} (ha : w.cell? a = some (.int .i64 x.1)) (ha2 : w.cell? (a.add 1) = some (.string x.2)) (hl : xs.length ≤ 1000000) (ty : TypeId) :
    ∃ v' w', (Builtin.append_ #[t, t] ty #[.slice p xs.length xs.length, .slice (some a) 1 c]).run Try.prog w = .ok v' w' ∧ QS w' v' (xs ++ [x]) ∧ Mv (fun _ => False) w w' ∧ ∃ k, nb v' = some k ∧ w.heap.size ≤ k := by
  have hnews : ∀ j u, (flat [x])[j]? = some u → w.cell? (a.add j) = some u := by
    intro j u hj
    match j, hj with
    | 0, hj =>
      simp [flat] at hj; subst hj
      rw [← ha]; congr 1
    | 1, hj =>
      simp [flat] at hj; subst hj
      exact ha2
  have he : flat (xs ++ [x]) = flat xs ++ flat [x] := flat_app _ _
  have hL : (xs ++ [x]).length = xs.length + 1 := by simp
  obtain ⟨i0, hi, hz0, hz1, hz2⟩ := T.i
  have h1c := flat_one [x]
  subst hv
  rcases h with ⟨hv, rfl⟩ | ⟨g, o, cap, hv, hg, h1, h2, h3, h4⟩
  · injection hv with e1 _ _
    subst e1
    obtain ⟨v', w', hrun, ho, hgr, _, hat⟩ := run_append_own_at (P := Try.prog) w w.heap.size t ty e _ _ 2 24 T.u hi hz0 hz1 hz2 rfl (by decide) (.slice none 0 0) 0 [] (World.ownsRow_nil w _ _ _) a 1 c (flat [x]) rfl hnews h1c (by unfold maxLen; omega) (by omega) (Nat.le_refl _)
    refine ⟨v', w', hrun, QS.own (base := w.heap.size) (e := e) ho, (Mv.refl _ _).grown hgr (fun k e => by cases e), ?_⟩
    rcases ho.2 with ⟨rfl, h0⟩ | ⟨g, cap, cur, rfl, hb, hg, _⟩
    · simp at h0
    · exact ⟨g, rfl, hb⟩
  · injection hv with e1 _ _
    subst e1
    have hold : ∀ j u, (flat xs)[j]? = some u → w.cell? ((⟨g, o, none⟩ : Addr).add j) = some u := fun j u hj => by
      rw [Addr.add_lit]; exact h3 j u hj
    obtain ⟨v', w', hrun, ho, hgr⟩ := run_append_arg_grows (P := Try.prog) w t ty e _ _ 2 24 T.u hi hz0 hz1 hz2 rfl (by decide) ⟨g, o, none⟩ xs.length xs.length (flat xs) (flat_len xs) hold a 1 c (flat [x]) rfl hnews (by omega) (by unfold maxLen; omega) (by omega)
    rw [← he, ← hL] at ho
    refine ⟨v', w', hrun, QS.own ho, (Mv.refl _ _).grown hgr (fun k e => by cases e), ?_⟩
    rcases ho.2 with ⟨rfl, h0⟩ | ⟨g2, cap2, cur, rfl, hb2, hg2, _⟩
    · simp at h0
    · exact ⟨g2, rfl, hb2⟩
set_option maxRecDepth 100000 in
set_option maxHeartbeats 400000 in
theorem rconnect_no (R : Rt) (s t : ByteArray) (w : World) (h : Rs w R) (hl : R.l.length ≤ 1000) (ht : thereR R.l s = false) :
    Calls Try.prog 14 #[.pointer (some ⟨R.b, 0, none⟩), .string s, .string t] w fun e w' => e = .returned (.tuple #[.int .i64 0, .int .i64 100]) ∧ Below w.heap.size w w' := by
  have hat := hidP (rat_any R s w h hl)
  rw [ht] at hat
  clear h ht
  go_enter Try.func14, Try.ntmps14
  go_wp2_with fail
  refine hat.out.mono ?_
  rintro e w1 ⟨rfl, hb1⟩
  clear hat
  go_wp2_with fail
  exact bodyPost_ret (v := .tuple #[.int .i64 0, .int .i64 100]) (by simp [results, Try.results14, go_sem]) rfl ⟨rfl, hb1⟩
set_option maxRecDepth 100000 in
set_option maxHeartbeats 400000 in
theorem rconnect_long (R : Rt) (s t : ByteArray) (w : World) (h : Rs w R) (hl : R.l.length ≤ 1000) (ht : thereR R.l s = true) (h2 : 200 < t.size) :
    Calls Try.prog 14 #[.pointer (some ⟨R.b, 0, none⟩), .string s, .string t] w fun e w' => e = .returned (.tuple #[.int .i64 0, .int .i64 100]) ∧ Below w.heap.size w w' := by
  have hat := hidP (rat_any R s w h hl)
  rw [ht] at hat
  have ht' : (200 : Int) < (t.size : Int) := by omega
  clear h ht h2
  go_enter Try.func14, Try.ntmps14
  go_wp2_with fail
  refine hat.out.mono ?_
  rintro e w1 ⟨rfl, hb1⟩
  clear hat
  go_wp2_with fail
  exact bodyPost_ret (v := .tuple #[.int .i64 0, .int .i64 100]) (by simp [results, Try.results14, go_sem]) rfl ⟨rfl, hb1⟩
set_option maxRecDepth 100000 in
set_option maxHeartbeats 400000 in
theorem rconnect_full (R : Rt) (s t : ByteArray) (i : Nat) (x : RG) (w : World) (h : Rs w R) (hl : R.l.length ≤ 1000) (ht : thereR R.l s = true) (h2 : t.size ≤ 200) (hi : atP R.l s = i) (hx : R.l[i]? = some x) (hp : 16 ≤ x.ps.length) :
    Calls Try.prog 14 #[.pointer (some ⟨R.b, 0, none⟩), .string s, .string t] w fun e w' => e = .returned (.tuple #[.int .i64 0, .int .i64 102]) ∧ Below w.heap.size w w' := by
  have hat := hidP (rat_any R s w h hl)
  rw [ht, hi] at hat
  have ht' : ¬ (200 : Int) < (t.size : Int) := by omega
  obtain ⟨n, hnn⟩ : ∃ n, R.l.length = n := ⟨_, rfl⟩
  have hil : (i : Int) < (n : Int) := by have := (List.getElem?_eq_some_iff.1 hx).1; omega
  have hi0 : (0 : Int) ≤ (i : Int) := by omega
  obtain ⟨p, c, hv⟩ := (h.ps x (List.mem_of_getElem? hx)).1.shape
  obtain ⟨m, hm⟩ : ∃ m, x.ps.length = m := ⟨_, rfl⟩
  rw [hm] at hv hp
  have hpI : (16 : Int) ≤ (m : Int) := by omega
  have hH := hidP (And.intro h (And.intro hx (And.intro hnn hv)))
  clear h ht h2 hi hx hnn hv
  go_enter Try.func14, Try.ntmps14
  go_wp2_with fail
  refine hat.out.mono ?_
  rintro e w1 ⟨rfl, hb1⟩
  clear hat
  have h1 := hH.out.1.below hb1
  obtain ⟨g, cap, e1, _, e3⟩ := h1.at hH.out.2.1
  have c0 := h1.c0
  rw [e1, hH.out.2.2.1] at c0
  rw [hH.out.2.2.2] at e3
  clear h1 hH e1
  go_wp2_with fail
  exact bodyPost_ret (v := .tuple #[.int .i64 0, .int .i64 102]) (by simp [results, Try.results14, go_sem]) rfl ⟨rfl, hb1⟩
/-- One port's row turns. -/
theorem Rs.turn1 {w w' : World} {R : Rt} {i g cap : Nat} {x : RG} {v' : Value} {ys : List Pr} {nx : Int} (h : Rs w R) (hx : R.l[i]? = some x) (e1 : R.lv = .slice (some ⟨g, 0, none⟩) R.l.length cap)
    (m : Mv (fun k => k = R.b) w w') (c0 : w'.cell? ⟨R.b, 0, none⟩ = some R.lv) (c1 : w'.cell? ⟨R.b, 1, none⟩ = some (.int .i64 nx)) (c2 : w'.cell? ⟨R.b, 2, none⟩ = some R.dv) (f0 : ∀ j, w'.frozen? ⟨R.b, j, none⟩ = false)
    (hq : QS w' v' ys) (hk : ∀ k, nb v' = some k → nb x.v = some k ∨ w.heap.size ≤ k) : RGoes R w { R with l := R.l.set i ⟨x.nm, ys, v'⟩, nx := nx } (w'.setCell ⟨g, i * 2 + 1, none⟩ v') := by
  have hg : R.lv.ownBlock = some g := by rw [e1]; rfl
  have hgb : R.b ≠ g := fun e => h.n1 g hg e.symm
  have hgl := (h.row.lt g hg).2
  have hxr := h.ps x (List.mem_of_getElem? hx)
  have hnb : ∀ k, nb v' = some k → k ≠ R.b ∧ k ≠ g := fun k q => by
    rcases hk k q with t | t
    · exact ⟨fun e => (hxr.2 k t).2 (.inl e), fun e => (hxr.2 k t).2 (.inr (by rw [e]; exact hg))⟩
    · have hb := h.lt (.inl rfl)
      exact ⟨by omega, by omega⟩
  have ms : Mv (fun k => k = g) w' (w'.setCell ⟨g, i * 2 + 1, none⟩ v') := (Mv.refl (fun k => k = g) _).setc (p := ⟨g, i * 2 + 1, none⟩) (.inl rfl) _
  have row1 : w'.ownsRow 0 62 2 R.lv R.l.length (cs2 R.l) := own_mv h.row m (fun k hk e => h.n1 k hk e)
  have hm := h.turnL (w' := w'.setCell ⟨g, i * 2 + 1, none⟩ v') (lv := R.lv) (l := R.l.set i ⟨x.nm, ys, v'⟩) (nx := nx) ((m.mono (fun k _ e => .inl e)).trans' (ms.mono (fun k _ e => .inr (by rw [e]; exact hg)))) (ms.cell (a := ⟨R.b, 0, none⟩) hgb c0) (ms.cell (a := ⟨R.b, 1, none⟩) hgb c1) (ms.cell (a := ⟨R.b, 2, none⟩) hgb c2) (fun j => (ms.froz (a := ⟨R.b, j, none⟩) hgb (by have := cell_lt c0; exact this)).trans (f0 j)) (by
      rw [List.length_set, cs2_set (y := ⟨x.nm, ys, v'⟩) hx rfl]
      rw [e1] at row1 ⊢
      exact own_set row1 v') (fun y hy => ?_) (fun k hk => .inl hk)
  · exact hm
  · rcases List.mem_or_eq_of_mem_set hy with q | q
    · exact .inl q
    · subst q
      exact .inr ⟨hq.mv ms (fun k q e => (hnb k q).2 e), fun k q => ⟨Nat.lt_of_lt_of_le (hq.lt q) ms.size, (hnb k q).1, fun e => (hnb k q).2 (by rw [hg] at e; injection e with e; exact e.symm), (hk k q).imp (fun t => .inr (.inl ⟨x, List.mem_of_getElem? hx, t⟩)) id⟩⟩
set_option maxRecDepth 100000 in
set_option maxHeartbeats 1000000 in
theorem rconnect_ok (R : Rt) (s t : ByteArray) (i : Nat) (x : RG) (w : World) (h : Rs w R) (hl : R.l.length ≤ 1000) (ht : thereR R.l s = true) (h2 : t.size ≤ 200) (hi : atP R.l s = i) (hx : R.l[i]? = some x) (hp : x.ps.length < 16) (n0 : 0 ≤ R.nx) (n1 : R.nx ≤ 1000000) :
    Calls Try.prog 14 #[.pointer (some ⟨R.b, 0, none⟩), .string s, .string t] w fun e w' => e = .returned (.tuple #[.int .i64 (R.nx + 1), .int .i64 0]) ∧ ∃ v', RGoes R w { R with l := R.l.set i ⟨x.nm, x.ps ++ [(R.nx + 1, t)], v'⟩, nx := R.nx + 1 } w' := by
  have hat := hidP (rat_any R s w h hl)
  rw [ht, hi] at hat
  have ht' : ¬ (200 : Int) < (t.size : Int) := by omega
  obtain ⟨n, hnn⟩ : ∃ n, R.l.length = n := ⟨_, rfl⟩
  have hil : (i : Int) < (n : Int) := by have := (List.getElem?_eq_some_iff.1 hx).1; omega
  have hi0 : (0 : Int) ≤ (i : Int) := by omega
  obtain ⟨p, c, hv⟩ := (h.ps x (List.mem_of_getElem? hx)).1.shape
  obtain ⟨m, hm⟩ : ∃ m, x.ps.length = m := ⟨_, rfl⟩
  rw [hm] at hv hp
  have hpI : ¬ (16 : Int) ≤ (m : Int) := by omega
  obtain ⟨nx, hnx⟩ : ∃ nx, R.nx + 1 = nx := ⟨_, rfl⟩
  have hx1 : R.nx + 1 ≤ 9223372036854775807 := by omega
  have hx0 : -9223372036854775808 ≤ R.nx + 1 := by omega
  have hwr : IntKind.i64.wrap (R.nx + 1) = nx := by rw [IntKind.wrap_i64]; omega
  rw [hnx]
  have hmc : m ≤ c := by
    rcases (h.ps x (List.mem_of_getElem? hx)).1 with ⟨e, e2⟩ | ⟨g, o, cap, e, _, h1, _⟩
    · rw [e2] at hm; simp at hm; omega
    · rw [hv] at e; injection e with _ _ e; omega
  have hmcI : (m : Int) ≤ (c : Int) := by omega
  have hcm : (c : Int) ≤ 9223372036854775807 := by
    rcases (h.ps x (List.mem_of_getElem? hx)).1 with ⟨e, e2⟩ | ⟨g, o, cap, e, _, _, h1, _⟩
    · rw [hv] at e; injection e with _ _ e; omega
    · rw [hv] at e; injection e with _ _ e; unfold maxLen at h1; omega
  have hH := hidP (And.intro h (And.intro hx (And.intro hnn (And.intro hv hm))))
  clear h ht h2 hi hx hnn hv hm
  go_enter Try.func14, Try.ntmps14
  go_wp2_with fail
  refine hat.out.mono ?_
  rintro e w1 ⟨rfl, hb1⟩
  clear hat
  obtain ⟨hR, hx, hnn, hv, hm⟩ := hH.out
  have h1 := hR.below hb1
  obtain ⟨g, cap, e1, _, e3⟩ := h1.at hx
  have c0 := h1.c0
  have c1 := h1.c1
  have f1 := h1.f0 1
  have e1H := hidP e1
  rw [e1, hnn] at c0
  rw [hv] at e3
  have hgb : R.b ≠ g := fun e => h1.n1 g (by rw [e1]; rfl) e.symm
  obtain ⟨W2, hW2⟩ : ∃ W2, w1.setCell ⟨R.b, 1, none⟩ (.int .i64 nx) = W2 := ⟨_, rfl⟩
  have m2 : Mv (fun k => k = R.b) w1 W2 := by rw [← hW2]; exact (Mv.refl (fun k => k = R.b) w1).setc (p := ⟨R.b, 1, none⟩) (.inl rfl) _
  have d0 : W2.cell? ⟨R.b, 0, none⟩ = some (.slice (some ⟨g, 0, none⟩) n cap) := by rw [← hW2]; exact (World.cell?_setCell_other _ _ _ _ (by simp)).trans c0
  have d1 : W2.cell? ⟨R.b, 1, none⟩ = some (.int .i64 nx) := by rw [← hW2]; exact World.cell?_setCell_same' _ _ _ (by rw [c1]; rfl)
  have d2 : W2.cell? ⟨R.b, 2, none⟩ = some R.dv := by rw [← hW2]; exact (World.cell?_setCell_other _ _ _ _ (by simp)).trans h1.c2
  have d3 : W2.cell? ⟨g, i * 2 + 1, none⟩ = some (.slice p m c) := m2.cell (a := ⟨g, i * 2 + 1, none⟩) (fun e => hgb e.symm) e3
  have df : ∀ j, W2.frozen? ⟨R.b, j, none⟩ = false := fun j => by rw [← hW2, World.frozen?_setCell]; exact h1.f0 j
  have hgf : W2.frozen? ⟨g, i * 2 + 1, none⟩ = false := (m2.froz (a := ⟨g, i * 2 + 1, none⟩) (fun e => hgb e.symm) (cell_lt e3)).trans (own_froz h1.row (by rw [e1]; rfl))
  have hxr := h1.ps x (List.mem_of_getElem? hx)
  have q2 : QS W2 x.v x.ps := hxr.1.mv m2 (fun k hk e => (hxr.2 k hk).2 (.inl e))
  obtain ⟨V, hV⟩ : ∃ V, W2.drew.alloc (.cells #[.int .i64 nx, .string t] 41) = V := ⟨_, rfl⟩
  have mV : Mv (fun _ => False) W2 V := by rw [← hV]; exact (Mv.drew _ _).trans' (Mv.alloc _ _ _)
  obtain ⟨v', w4, hrun, hq4, m4, k4, hk4, hn4⟩ := (q2.mv mV (fun _ _ h => h)).grow tyC (p := p) (c0 := c) (by rw [hv, hm]) (a := ⟨W2.heap.size, 0, none⟩) (x := (nx, t)) (c := 1) (by rw [← hV]; exact cell_at rfl rfl) (by rw [Addr.add_lit, ← hV]; exact cell_at rfl rfl) (by omega) 54
  rw [hm] at hrun
  have mm : Mv (fun _ => False) W2 w4 := mV.trans' m4
  have fin : Hid (RGoes R w { R with l := R.l.set i ⟨x.nm, x.ps ++ [(nx, t)], v'⟩, nx := nx } (w4.setCell ⟨g, i * 2 + 1, none⟩ v')) := by
    refine ((RGoes.below hR hb1).trans (h1.turn1 hx e1H.out (m2.trans' (mm.mono (fun _ _ h => h.elim))) ?_ (mm.cell (a := ⟨R.b, 1, none⟩) (fun h => h) d1) (mm.cell (a := ⟨R.b, 2, none⟩) (fun h => h) d2) (fun j => (mm.froz (a := ⟨R.b, j, none⟩) (fun h => h) (by have := cell_lt d0; exact this)).trans (df j)) hq4 (fun k hk => ?_)))
    · rw [e1H.out, hnn]; exact mm.cell (a := ⟨R.b, 0, none⟩) (fun h => h) d0
    · rw [hk4] at hk; injection hk with hk; subst hk
      exact .inr (Nat.le_trans m2.size (Nat.le_trans mV.size hn4))
  obtain ⟨p', c', hv'⟩ := hq4.shape
  obtain ⟨m', hm'⟩ : ∃ m', (x.ps ++ [(nx, t)]).length = m' := ⟨_, rfl⟩
  rw [hm'] at hv'
  subst hv'
  have hall : ∀ y, Mv (fun _ => False) W2 y → y.cell? ⟨R.b, 0, none⟩ = some (.slice (some ⟨g, 0, none⟩) n cap) ∧ y.cell? ⟨R.b, 1, none⟩ = some (.int .i64 nx) ∧ y.cell? ⟨g, i * 2 + 1, none⟩ = some (.slice p m c) := fun y my => ⟨my.cell (a := ⟨R.b, 0, none⟩) (fun h => h) d0, my.cell (a := ⟨R.b, 1, none⟩) (fun h => h) d1, my.cell (a := ⟨g, i * 2 + 1, none⟩) (fun h => h) d3⟩
  have z4 := hall w4 mm
  have z5 := z4.2.2
  have z6 : w4.frozen? ⟨g, i * 2 + 1, none⟩ = false := (mm.froz (a := ⟨g, i * 2 + 1, none⟩) (fun h => h) (cell_lt d3)).trans hgf
  have hallH := hidP hall
  have hid := hidP (And.intro mV mm)
  have hbn : (w4.setCell ⟨g, i * 2 + 1, none⟩ (.slice p' m' c')).cell? ⟨R.b, 1, none⟩ = some (.int .i64 nx) := (World.cell?_setCell_other _ _ _ _ (by simp; try (intro q; exact absurd q hgb))).trans z4.2.1
  clear hall hR hx hnn hv hm h1 e1 d2 df hgf hxr q2 mV hq4 m4 hk4 hn4 mm m2 hm' hH e1H hb1 hgb
  go_wp2_with (rw [hW2])
  refine Zs.region (S := fun y => y.cell? ⟨R.b, 0, none⟩ = some (.slice (some ⟨g, 0, none⟩) n cap) ∧ y.cell? ⟨R.b, 1, none⟩ = some (.int .i64 nx) ∧ y.cell? ⟨g, i * 2 + 1, none⟩ = some (.slice p m c)) 42 (by kernel_rfl) ?_
  have hHeld := hallH.out _ (Mv.drew _ _)
  refine Zs.take (i := 0) (oi := ⟨some 42, _, _, _, _, _⟩) (v := ?v0) rfl (by kernel_rfl) (by kernel_rfl) (by kernel_rfl) (by decide) (by kernel_rfl) (by kernel_rfl) (fun _ _ _ h => h) (Or.inl ⟨by rfl, ?hy0⟩) (by assumption) ?_
  case hy0 => (intro w hSw; (try dsimp only at hSw); go_simp; try with_reducible rfl)
  simp only [Act.put, List.setIfInBounds_toArray, List.set_cons_zero, List.set_cons_succ]
  refine Zs.take (i := 1) (oi := ⟨some 43, _, _, _, _, _⟩) (v := ?v1) rfl (by kernel_rfl) (by kernel_rfl) (by kernel_rfl) (by decide) (by kernel_rfl) (by kernel_rfl) (fun _ _ _ h => h) (Or.inl ⟨by rfl, ?hy1⟩) (by assumption) ?_
  case hy1 => (intro w hSw; (try dsimp only at hSw); go_simp; try with_reducible rfl)
  simp only [Act.put, List.setIfInBounds_toArray, List.set_cons_zero, List.set_cons_succ]
  refine Zs.take (i := 2) (oi := ⟨some 44, _, _, _, _, _⟩) (v := ?v2) rfl (by kernel_rfl) (by kernel_rfl) (by kernel_rfl) (by decide) (by kernel_rfl) (by kernel_rfl) (fun _ _ _ h => h) (Or.inl ⟨by rfl, ?hy2⟩) (by assumption) ?_
  case hy2 => (intro w hSw; (try dsimp only at hSw); go_simp; try with_reducible rfl)
  simp only [Act.put, List.setIfInBounds_toArray, List.set_cons_zero, List.set_cons_succ]
  refine Zs.take (i := 3) (oi := ⟨some 45, _, _, _, _, _⟩) (v := ?v3) rfl (by kernel_rfl) (by kernel_rfl) (by kernel_rfl) (by decide) (by kernel_rfl) (by kernel_rfl) (fun _ _ _ h => h) (Or.inl ⟨by rfl, ?hy3⟩) (by assumption) ?_
  case hy3 => (intro w hSw; (try dsimp only at hSw); go_simp; try with_reducible rfl)
  simp only [Act.put, List.setIfInBounds_toArray, List.set_cons_zero, List.set_cons_succ]
  refine Zs.take (i := 4) (oi := ⟨some 46, _, _, _, _, _⟩) (v := ?v4) rfl (by kernel_rfl) (by kernel_rfl) (by kernel_rfl) (by decide) (by kernel_rfl) (by kernel_rfl) (fun _ _ _ h => h) (Or.inl ⟨by rfl, ?hy4⟩) (by assumption) ?_
  case hy4 => (intro w hSw; (try dsimp only at hSw); go_simp; try with_reducible rfl)
  simp only [Act.put, List.setIfInBounds_toArray, List.set_cons_zero, List.set_cons_succ]
  refine Zs.take (i := 5) (oi := ⟨some 47, _, _, _, _, _⟩) (v := ?v5) rfl (by kernel_rfl) (by kernel_rfl) (by kernel_rfl) (by decide) (by kernel_rfl) (by kernel_rfl) (fun _ _ _ h => h) (Or.inl ⟨by rfl, ?hy5⟩) (by assumption) ?_
  case hy5 => (intro w hSw; (try dsimp only at hSw); go_simp; try with_reducible rfl)
  simp only [Act.put, List.setIfInBounds_toArray, List.set_cons_zero, List.set_cons_succ]
  refine Zs.take (i := 6) (oi := ⟨some 48, _, _, _, _, _⟩) (v := ?v6) rfl (by kernel_rfl) (by kernel_rfl) (by kernel_rfl) (by decide) (by kernel_rfl) (by kernel_rfl) (fun _ _ _ h => h) (Or.inl ⟨by rfl, ?hy6⟩) (by assumption) ?_
  case hy6 => (intro w hSw; (try dsimp only at hSw); go_simp; try with_reducible rfl)
  simp only [Act.put, List.setIfInBounds_toArray, List.set_cons_zero, List.set_cons_succ]
  refine Zs.take (i := 7) (oi := ⟨some 49, _, _, _, _, _⟩) (v := ?v7) rfl (by kernel_rfl) (by kernel_rfl) (by kernel_rfl) (by decide) (by kernel_rfl) (by kernel_rfl) (fun _ _ _ h => h) (Or.inl ⟨by rfl, ?hy7⟩) (by assumption) ?_
  case hy7 => (intro w hSw; (try dsimp only at hSw); go_simp; try with_reducible rfl)
  simp only [Act.put, List.setIfInBounds_toArray, List.set_cons_zero, List.set_cons_succ]
  refine Zs.take (i := 8) (oi := ⟨some 50, _, _, _, _, _⟩) (v := ?v8) rfl (by kernel_rfl) (by kernel_rfl) (by kernel_rfl) (by decide) (by kernel_rfl) (by kernel_rfl) (fun _ _ _ h => h) (Or.inl ⟨by rfl, ?hy8⟩) (by assumption) ?_
  case hy8 => (intro w hSw; (try dsimp only at hSw); go_simp; try with_reducible rfl)
  simp only [Act.put, List.setIfInBounds_toArray, List.set_cons_zero, List.set_cons_succ]
  refine Zs.take (i := 9) (oi := ⟨some 51, _, _, _, _, _⟩) (v := ?v9) rfl (by kernel_rfl) (by kernel_rfl) (by kernel_rfl) (by decide) (by kernel_rfl) (by kernel_rfl) (fun _ _ _ h => h) (Or.inl ⟨by rfl, ?hy9⟩) (by assumption) ?_
  case hy9 => (intro w hSw; (try dsimp only at hSw); go_simp; try with_reducible rfl)
  simp only [Act.put, List.setIfInBounds_toArray, List.set_cons_zero, List.set_cons_succ]
  refine Zs.take (i := 10) (oi := ⟨some 52, _, _, _, _, _⟩) (v := ?v10) rfl (by kernel_rfl) (by kernel_rfl) (by kernel_rfl) (by decide) (by kernel_rfl) (by kernel_rfl) (fun _ _ _ h => h) (Or.inl ⟨by rfl, ?hy10⟩) (by assumption) ?_
  case hy10 => (intro w hSw; (try dsimp only at hSw); go_simp; try with_reducible rfl)
  simp only [Act.put, List.setIfInBounds_toArray, List.set_cons_zero, List.set_cons_succ]
  refine Zs.take (i := 11) (oi := ⟨some 53, _, _, _, _, _⟩) (v := ?v11) rfl (by kernel_rfl) (by kernel_rfl) (by kernel_rfl) (by decide) (by kernel_rfl) (by kernel_rfl) (fun _ _ _ h => h) (Or.inl ⟨by rfl, ?hy11⟩) (by assumption) ?_
  case hy11 => (intro w hSw; (try dsimp only at hSw); go_simp; try with_reducible rfl)
  simp only [Act.put, List.setIfInBounds_toArray, List.set_cons_zero, List.set_cons_succ]
  refine Zs.take (i := 12) (oi := ⟨some 54, _, _, _, _, _⟩) (v := ?v12) rfl (by kernel_rfl) (by kernel_rfl) (by kernel_rfl) (by decide) (by kernel_rfl) (by kernel_rfl) (fun _ _ _ h => h) (Or.inl ⟨by rfl, ?hy12⟩) (by assumption) ?_
  case hy12 => (intro w hSw; (try dsimp only at hSw); go_simp; try with_reducible rfl)
  simp only [Act.put, List.setIfInBounds_toArray, List.set_cons_zero, List.set_cons_succ]
  refine Zs.take (i := 13) (oi := ⟨some 55, _, _, _, _, _⟩) (v := ?v13) rfl (by kernel_rfl) (by kernel_rfl) (by kernel_rfl) (by decide) (by kernel_rfl) (by kernel_rfl) (fun _ _ _ h => h) (Or.inl ⟨by rfl, ?hy13⟩) (by assumption) ?_
  case hy13 => (intro w hSw; (try dsimp only at hSw); go_simp; try with_reducible rfl)
  simp only [Act.put, List.setIfInBounds_toArray, List.set_cons_zero, List.set_cons_succ]
  refine Zs.take (i := 14) (oi := ⟨some 56, _, _, _, _, _⟩) (v := ?v14) rfl (by kernel_rfl) (by kernel_rfl) (by kernel_rfl) (by decide) (by kernel_rfl) (by kernel_rfl) (fun _ _ _ h => h) (Or.inl ⟨by rfl, ?hy14⟩) (by assumption) ?_
  case hy14 => (intro w hSw; (try dsimp only at hSw); go_simp; try with_reducible rfl)
  simp only [Act.put, List.setIfInBounds_toArray, List.set_cons_zero, List.set_cons_succ]
  refine Zs.take (i := 15) (oi := ⟨some 57, _, _, _, _, _⟩) (v := ?v15) rfl (by kernel_rfl) (by kernel_rfl) (by kernel_rfl) (by decide) (by kernel_rfl) (by kernel_rfl) (fun _ _ _ h => h) (Or.inl ⟨by rfl, ?hy15⟩) (by assumption) ?_
  case hy15 => (intro w hSw; (try dsimp only at hSw); go_simp; try with_reducible rfl)
  simp only [Act.put, List.setIfInBounds_toArray, List.set_cons_zero, List.set_cons_succ]
  refine Zs.take (i := 16) (oi := ⟨some 58, _, _, _, _, _⟩) (v := ?v16) rfl (by kernel_rfl) (by kernel_rfl) (by kernel_rfl) (by decide) (by kernel_rfl) (by kernel_rfl) (fun _ _ _ h => h) (Or.inl ⟨by rfl, ?hy16⟩) (by assumption) ?_
  case hy16 => (intro w hSw; (try dsimp only at hSw); go_simp; try with_reducible rfl)
  simp only [Act.put, List.setIfInBounds_toArray, List.set_cons_zero, List.set_cons_succ]
  refine Zs.take (i := 17) (oi := ⟨some 59, _, _, _, _, _⟩) (v := ?v17) rfl (by kernel_rfl) (by kernel_rfl) (by kernel_rfl) (by decide) (by kernel_rfl) (by kernel_rfl) (fun _ _ _ h => h) (Or.inl ⟨by rfl, ?hy17⟩) (by assumption) ?_
  case hy17 => (intro w hSw; (try dsimp only at hSw); go_simp; try with_reducible rfl)
  simp only [Act.put, List.setIfInBounds_toArray, List.set_cons_zero, List.set_cons_succ]
  refine Zs.take (i := 18) (oi := ⟨some 60, _, _, _, _, _⟩) (v := ?v18) rfl (by kernel_rfl) (by kernel_rfl) (by kernel_rfl) (by decide) (by kernel_rfl) (by kernel_rfl) (fun _ _ _ h => h) (Or.inl ⟨by rfl, ?hy18⟩) (by assumption) ?_
  case hy18 => (intro w hSw; (try dsimp only at hSw); go_simp; try with_reducible rfl)
  simp only [Act.put, List.setIfInBounds_toArray, List.set_cons_zero, List.set_cons_succ]
  refine Zs.take (i := 19) (oi := ⟨some 61, _, _, _, _, _⟩) (v := ?v19) rfl (by kernel_rfl) (by kernel_rfl) (by kernel_rfl) (by decide) (by kernel_rfl) (by kernel_rfl) (fun _ _ _ h => h) (Or.inl ⟨by rfl, ?hy19⟩) (by assumption) ?_
  case hy19 => (intro w hSw; (try dsimp only at hSw); go_simp; try with_reducible rfl)
  simp only [Act.put, List.setIfInBounds_toArray, List.set_cons_zero, List.set_cons_succ]
  refine Zs.take (i := 20) (oi := ⟨some 62, _, _, _, _, _⟩) (v := ?v20) rfl (by kernel_rfl) (by kernel_rfl) (by kernel_rfl) (by decide) (by kernel_rfl) (by kernel_rfl) (fun _ _ _ h => h) (Or.inl ⟨by rfl, ?hy20⟩) (by assumption) ?_
  case hy20 => (intro w hSw; (try dsimp only at hSw); go_simp; try with_reducible rfl)
  simp only [Act.put, List.setIfInBounds_toArray, List.set_cons_zero, List.set_cons_succ]
  refine Zs.take (i := 21) (oi := ⟨some 63, _, _, _, _, _⟩) (v := ?v21) rfl (by kernel_rfl) (by kernel_rfl) (by kernel_rfl) (by decide) (by kernel_rfl) (by kernel_rfl) (fun _ _ _ h => h) (Or.inl ⟨by rfl, ?hy21⟩) (by assumption) ?_
  case hy21 => (intro w hSw; (try dsimp only at hSw); go_simp; try with_reducible rfl)
  simp only [Act.put, List.setIfInBounds_toArray, List.set_cons_zero, List.set_cons_succ]
  refine Zs.take (i := 22) (oi := ⟨some 64, _, _, _, _, _⟩) (v := ?v22) rfl (by kernel_rfl) (by kernel_rfl) (by kernel_rfl) (by decide) (by kernel_rfl) (by kernel_rfl) (fun _ _ _ h => h) (Or.inl ⟨by rfl, ?hy22⟩) (by assumption) ?_
  case hy22 => (intro w hSw; (try dsimp only at hSw); go_simp; try with_reducible rfl)
  simp only [Act.put, List.setIfInBounds_toArray, List.set_cons_zero, List.set_cons_succ]
  refine Zs.take (i := 23) (oi := ⟨some 65, _, _, _, _, _⟩) (v := ?v23) rfl (by kernel_rfl) (by kernel_rfl) (by kernel_rfl) (by decide) (by kernel_rfl) (by kernel_rfl) (fun _ _ _ h => h) (Or.inl ⟨by rfl, ?hy23⟩) (by assumption) ?_
  case hy23 => (intro w hSw; (try dsimp only at hSw); go_simp; try with_reducible rfl)
  simp only [Act.put, List.setIfInBounds_toArray, List.set_cons_zero, List.set_cons_succ]
  refine Zs.take (i := 24) (oi := ⟨some 66, _, _, _, _, _⟩) (v := ?v24) rfl (by kernel_rfl) (by kernel_rfl) (by kernel_rfl) (by decide) (by kernel_rfl) (by kernel_rfl) (fun _ _ _ h => h) (Or.inl ⟨by rfl, ?hy24⟩) (by assumption) ?_
  case hy24 => (intro w hSw; (try dsimp only at hSw); go_simp; try with_reducible rfl)
  simp only [Act.put, List.setIfInBounds_toArray, List.set_cons_zero, List.set_cons_succ]
  refine Zs.take (i := 25) (oi := ⟨some 67, _, _, _, _, _⟩) (v := ?v25) rfl (by kernel_rfl) (by kernel_rfl) (by kernel_rfl) (by decide) (by kernel_rfl) (by kernel_rfl) (fun _ _ _ h => h) (Or.inl ⟨by rfl, ?hy25⟩) (by assumption) ?_
  case hy25 => (intro w hSw; (try dsimp only at hSw); go_simp; try with_reducible rfl)
  simp only [Act.put, List.setIfInBounds_toArray, List.set_cons_zero, List.set_cons_succ]
  refine Zs.take (i := 26) (oi := ⟨some 68, _, _, _, _, _⟩) (v := ?v26) rfl (by kernel_rfl) (by kernel_rfl) (by kernel_rfl) (by decide) (by kernel_rfl) (by kernel_rfl) (fun _ _ _ h => h) (Or.inl ⟨by rfl, ?hy26⟩) (by assumption) ?_
  case hy26 => (intro w hSw; (try dsimp only at hSw); go_simp; try with_reducible rfl)
  simp only [Act.put, List.setIfInBounds_toArray, List.set_cons_zero, List.set_cons_succ]
  refine Zs.take (i := 27) (oi := ⟨some 69, _, _, _, _, _⟩) (v := ?v27) rfl (by kernel_rfl) (by kernel_rfl) (by kernel_rfl) (by decide) (by kernel_rfl) (by kernel_rfl) (fun _ _ _ h => h) (Or.inl ⟨by rfl, ?hy27⟩) (by assumption) ?_
  case hy27 => (intro w hSw; (try dsimp only at hSw); go_simp; try with_reducible rfl)
  simp only [Act.put, List.setIfInBounds_toArray, List.set_cons_zero, List.set_cons_succ]
  refine Zs.take (i := 28) (oi := ⟨some 70, _, _, _, _, _⟩) (v := ?v28) rfl (by kernel_rfl) (by kernel_rfl) (by kernel_rfl) (by decide) (by kernel_rfl) (by kernel_rfl) (fun _ _ _ h => h) (Or.inl ⟨by rfl, ?hy28⟩) (by assumption) ?_
  case hy28 => (intro w hSw; (try dsimp only at hSw); go_simp; try with_reducible rfl)
  simp only [Act.put, List.setIfInBounds_toArray, List.set_cons_zero, List.set_cons_succ]
  refine Zs.take (i := 29) (oi := ⟨some 71, _, _, _, _, _⟩) (v := ?v29) rfl (by kernel_rfl) (by kernel_rfl) (by kernel_rfl) (by decide) (by kernel_rfl) (by kernel_rfl) (fun _ _ _ h => h) (Or.inl ⟨by rfl, ?hy29⟩) (by assumption) ?_
  case hy29 => (intro w hSw; (try dsimp only at hSw); go_simp; try with_reducible rfl)
  simp only [Act.put, List.setIfInBounds_toArray, List.set_cons_zero, List.set_cons_succ]
  refine Zs.take (i := 30) (oi := ⟨some 72, _, _, _, _, _⟩) (v := ?v30) rfl (by kernel_rfl) (by kernel_rfl) (by kernel_rfl) (by decide) (by kernel_rfl) (by kernel_rfl) (fun _ _ _ h => h) (Or.inl ⟨by rfl, ?hy30⟩) (by assumption) ?_
  case hy30 => (intro w hSw; (try dsimp only at hSw); go_simp; try with_reducible rfl)
  simp only [Act.put, List.setIfInBounds_toArray, List.set_cons_zero, List.set_cons_succ]
  refine Zs.take (i := 31) (oi := ⟨some 73, _, _, _, _, _⟩) (v := ?v31) rfl (by kernel_rfl) (by kernel_rfl) (by kernel_rfl) (by decide) (by kernel_rfl) (by kernel_rfl) (fun _ _ _ h => h) (Or.inl ⟨by rfl, ?hy31⟩) (by assumption) ?_
  case hy31 => (intro w hSw; (try dsimp only at hSw); go_simp; try with_reducible rfl)
  simp only [Act.put, List.setIfInBounds_toArray, List.set_cons_zero, List.set_cons_succ]
  refine Zs.take (i := 32) (oi := ⟨some 74, _, _, _, _, _⟩) (v := ?v32) rfl (by kernel_rfl) (by kernel_rfl) (by kernel_rfl) (by decide) (by kernel_rfl) (by kernel_rfl) (fun _ _ _ h => h) (Or.inl ⟨by rfl, ?hy32⟩) (by assumption) ?_
  case hy32 => (intro w hSw; (try dsimp only at hSw); go_simp; try with_reducible rfl)
  simp only [Act.put, List.setIfInBounds_toArray, List.set_cons_zero, List.set_cons_succ]
  refine Zs.take (i := 33) (oi := ⟨some 75, _, _, _, _, _⟩) (v := ?v33) rfl (by kernel_rfl) (by kernel_rfl) (by kernel_rfl) (by decide) (by kernel_rfl) (by kernel_rfl) (fun _ _ _ h => h) (Or.inl ⟨by rfl, ?hy33⟩) (by assumption) ?_
  case hy33 => (intro w hSw; (try dsimp only at hSw); go_simp; try with_reducible rfl)
  simp only [Act.put, List.setIfInBounds_toArray, List.set_cons_zero, List.set_cons_succ]
  refine Zs.take (i := 34) (oi := ⟨some 76, _, _, _, _, _⟩) (v := ?v34) rfl (by kernel_rfl) (by kernel_rfl) (by kernel_rfl) (by decide) (by kernel_rfl) (by kernel_rfl) (fun _ _ _ h => h) (Or.inl ⟨by rfl, ?hy34⟩) (by assumption) ?_
  case hy34 => (intro w hSw; (try dsimp only at hSw); go_simp; try with_reducible rfl)
  simp only [Act.put, List.setIfInBounds_toArray, List.set_cons_zero, List.set_cons_succ]
  refine Zs.take (i := 35) (oi := ⟨some 77, _, _, _, _, _⟩) (v := ?v35) rfl (by kernel_rfl) (by kernel_rfl) (by kernel_rfl) (by decide) (by kernel_rfl) (by kernel_rfl) (fun _ _ _ h => h) (Or.inl ⟨by rfl, ?hy35⟩) (by assumption) ?_
  case hy35 => (intro w hSw; (try dsimp only at hSw); go_simp; try with_reducible rfl)
  simp only [Act.put, List.setIfInBounds_toArray, List.set_cons_zero, List.set_cons_succ]
  refine Zs.take (i := 36) (oi := ⟨some 78, _, _, _, _, _⟩) (v := ?v36) rfl (by kernel_rfl) (by kernel_rfl) (by kernel_rfl) (by decide) (by kernel_rfl) (by kernel_rfl) (fun _ _ _ h => h) (Or.inl ⟨by rfl, ?hy36⟩) (by assumption) ?_
  case hy36 => (intro w hSw; (try dsimp only at hSw); go_simp; try with_reducible rfl)
  simp only [Act.put, List.setIfInBounds_toArray, List.set_cons_zero, List.set_cons_succ]
  refine Zs.take (i := 37) (oi := ⟨some 79, _, _, _, _, _⟩) (v := ?v37) rfl (by kernel_rfl) (by kernel_rfl) (by kernel_rfl) (by decide) (by kernel_rfl) (by kernel_rfl) (fun _ _ _ h => h) (Or.inl ⟨by rfl, ?hy37⟩) (by assumption) ?_
  case hy37 => (intro w hSw; (try dsimp only at hSw); go_simp; try with_reducible rfl)
  simp only [Act.put, List.setIfInBounds_toArray, List.set_cons_zero, List.set_cons_succ]
  refine Zs.one (i := 38) (oi := ⟨some 80, _, _, _, _, _⟩) (by kernel_rfl) rfl (fun K hK => ?_)
  go_simp
  refine hK.out _ _ (fun _ => hallH.out _ hid.out.1) ?_
  clear hK K
  try simp only [Act.put, List.setIfInBounds_toArray, List.set_cons_zero, List.set_cons_succ]
  refine Zs.one (i := 39) (oi := ⟨some 81, _, _, _, _, _⟩) (by kernel_rfl) rfl (fun K hK => ?_)
  refine step_append_run rfl (.tmp 73) (.tmp 80) 54 rfl _ _ _ _ rfl rfl hrun ?_
  refine hK.out _ _ (fun _ => z4) ?_
  clear hK K
  try simp only [Act.put, List.setIfInBounds_toArray, List.set_cons_zero, List.set_cons_succ]
  refine Zs.pure (i := 40) (oi := ⟨some 82, _, _, _, _, _⟩) (v := ?v40) rfl (by kernel_rfl) (by kernel_rfl) (by kernel_rfl) (by decide) (fun _ _ _ h => h) (Or.inl ⟨by rfl, ?hy40⟩) (by assumption) ?_
  case hy40 => (intro w hSw; (try dsimp only at hSw); go_simp; try with_reducible rfl)
  simp only [Act.put, List.setIfInBounds_toArray, List.set_cons_zero, List.set_cons_succ]
  refine Zs.take (i := 41) (oi := ⟨some 83, _, _, _, _, _⟩) (v := ?v41) rfl (by kernel_rfl) (by kernel_rfl) (by kernel_rfl) (by decide) (by kernel_rfl) (by kernel_rfl) (fun _ _ _ h => h) (Or.inl ⟨by rfl, ?hy41⟩) (by assumption) ?_
  case hy41 => (intro w hSw; (try dsimp only at hSw); go_simp; try with_reducible rfl)
  simp only [Act.put, List.setIfInBounds_toArray, List.set_cons_zero, List.set_cons_succ]
  refine Zs.one (i := 42) (oi := ⟨none, _, _, _, _, _⟩) (by kernel_rfl) rfl (fun K hK => ?_)
  go_simp
  refine hK.out _ _ (fun q => absurd q (by decide)) ?_
  clear hK K
  refine Zs.done (by kernel_rfl) ?_ _
  go_wp2_with fail
  exact bodyPost_ret (v := .tuple #[.int .i64 nx, .int .i64 0]) (by simp [results, Try.results14, go_sem]) rfl ⟨rfl, _, fin.out⟩
end Go.Proofs.Ytppbdamlhcmlcaa
