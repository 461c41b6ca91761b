/- The reference's Gone: the walk. -/
import Derived.Test.YtfmceioiglmepaaRG6
namespace Go.Proofs.Ytfmceioiglmepaa
open Go.RowKit Go.Shelf Go.Lib
theorem remI_take {l : List Int} {a x : Int} {j : Nat} (hx : l[j]? = some x) : remI a (l.take (j + 1)) = remI a (l.take j) ++ (if x = a then [] else [x]) := by
  unfold remI
  rw [List.take_add_one, hx, List.filter_append]
  by_cases e : x = a
  · simp [e]
  · simp [e]
/-- One number more behind a row that is owned. -/
theorem app_int1 {W : World} {B : Nat} {v : Value} {xs : List Int} {x : Int} (h : W.ownsRow B 3 1 v xs.length (xs.map encZ)) (hx : xs.length ≤ 100000) (hB : B ≤ W.heap.size) :
    ∃ v' W', (Builtin.append_ #[43, 43] 43 #[v, .slice (some ⟨W.heap.size, 0, none⟩) 1 1]).run Try.prog (W.alloc (.cells #[.int .i64 x] 3)) = .ok v' W' ∧ W'.ownsRow B 3 1 v' (xs ++ [x]).length ((xs ++ [x]).map encZ) ∧ Below B W W' ∧ ∃ p n c, v' = .slice p n c := by
  obtain ⟨i0, hi, hz0, hz1, hz2⟩ := infoI
  obtain ⟨v', W', hrun, hown, hgr, _, hat⟩ := run_append_own_at (P := Try.prog) (W.alloc (.cells #[.int .i64 x] 3)) B 43 43 3 i0 (.int .i64 0) 1 8 Try.underlying43 hi hz0 hz1 hz2 rfl (by decide) v _ _ (h.alloc _) ⟨W.heap.size, 0, none⟩ 1 1 [.int .i64 x] rfl (row_news1 _ _ _) (by simp [Value.oneCell']) (by unfold maxLen; omega) (by omega) (by simp; omega)
  have m : Mv (fun k => v.ownBlock = some k) W W' := (Mv.alloc _ _ _).trans' ((Mv.refl _ _).grown hgr (fun k e => .inl (by rw [e])))
  refine ⟨v', W', hrun, by simpa using hown, m.toBelow hB (fun k hk e => ?_), ?_⟩
  · have := (h.lt k e).1
    omega
  · rcases hown.2 with ⟨e, _⟩ | ⟨g, cp, cur, e, _⟩
    · exact ⟨_, _, _, e⟩
    · exact ⟨_, _, _, e⟩
set_option maxRecDepth 100000 in
set_option maxHeartbeats 400000 in
theorem rgone_no (R : Rt) (a : Int) (w : World) (h : Rs w R) (hl : R.l.length ≤ 1000) (hp : ∀ x ∈ R.l, x.ps.length ≤ 1000) (hh : hmR R.l a = none) :
    Calls Try.prog 15 #[.pointer (some ⟨R.b, 0, none⟩), .int .i64 a] w fun e w' => e = .returned (.bool false) ∧ w' = w := by
  have hO := hidP (rof_any R a w h hl hp)
  rw [hh] at hO
  simp only [Option.map_none, Option.getD_none, Option.isSome_none] at hO
  clear h hh
  go_enter Try.func15, Try.ntmps15
  go_wp2_with fail
  refine hO.out.mono ?_
  rintro e w1 ⟨rfl, rfl⟩
  go_wp2_with fail
  go_ret
  exact ⟨rfl, rfl⟩
/-- A slice whose capacity holds its length. -/
def capV : Value → Prop
  | .slice _ n c => n ≤ c ∧ c ≤ maxLen
  | _ => False
theorem own_cap {w : World} {base : Nat} {e : TypeId} {size : Nat} {v : Value} {n : Nat} {xs : List Value} (h : w.ownsRow base e size v n xs) : capV v := by
  rcases h.2 with ⟨rfl, _⟩ | ⟨g, cap, cur, rfl, _, _, h5, h6, _⟩
  · exact ⟨Nat.le_refl _, Nat.zero_le _⟩
  · exact ⟨h5, h6⟩
set_option maxRecDepth 100000 in
set_option maxHeartbeats 400000 in
theorem rgone_yes (R : Rt) (a : Int) (i : Nat) (x : RG) (w : World) (h : Rs w R) (hs : srtR R.l) (hl : R.l.length ≤ 1000) (hp : ∀ x ∈ R.l, x.ps.length ≤ 1000) (hn : R.ns.length ≤ 1000) (hx : R.l[i]? = some x) (hh : hmR R.l a = some x) :
    Calls Try.prog 15 #[.pointer (some ⟨R.b, 0, none⟩), .int .i64 a] w fun e w' => e = .returned (.bool true) ∧ ∃ v nv, capV v ∧ RGoes R w { R with l := R.l.set i ⟨x.nm, remI a x.ps, v⟩, nv := nv, ns := if remI a x.ps = [] then noteP R.ns x.nm else R.ns } w' := by
  obtain ⟨N, hN⟩ : ∃ N, (if remI a x.ps = [] then noteP R.ns x.nm else R.ns) = N := ⟨_, rfl⟩
  rw [hN]
  have hNH := hidP hN
  have hO := hidP (rof_any R a w h hl hp)
  rw [hh] at hO
  simp only [Option.map_some, Option.getD_some, Option.isSome_some] at hO
  have hA := rat_any R x.nm w h hl
  rw [at_idx hs hx, there_idx hs hx] at hA
  have hAH := hidP hA
  have hH := hidP h
  have hil : i < R.l.length := (List.getElem?_eq_some_iff.1 hx).1
  have hxl : x.ps.length ≤ 1000 := hp x (List.mem_of_getElem? hx)
  obtain ⟨n, hnn⟩ : ∃ n, R.l.length = n := ⟨_, rfl⟩
  have hiI : (i : Int) < (n : Int) := by omega
  have hxH := hidP hx
  have hnnH := hidP hnn
  obtain ⟨xn, hxn⟩ : ∃ xn, x.nm = xn := ⟨_, rfl⟩
  rw [hxn] at hO hAH
  have hxnH := hidP hxn
  clear hN hA h hx hnn hxn hh
  go_enter Try.func15, Try.ntmps15
  go_wp2_with fail
  refine hO.out.mono ?_
  rintro e w1 ⟨rfl, rfl⟩
  clear hO
  go_wp2_with fail
  refine hAH.out.mono ?_
  rintro e w2 ⟨rfl, hb2⟩
  have h2 := hH.out.below hb2
  obtain ⟨g, cap, e1, _, e3⟩ := h2.at hxH.out
  have c0 := h2.c0
  rw [e1, hnnH.out] at c0
  obtain ⟨q, d, hv, hq⟩ := (h2.ps x (List.mem_of_getElem? hxH.out)).1
  rw [hv] at e3
  obtain ⟨m, hm⟩ : ∃ m, x.ps.length = m := ⟨_, rfl⟩
  rw [hm] at e3 hxl
  have hmH := hidP hm
  have hqH := hidP hq
  have e1H := hidP e1
  have h2H := hidP h2
  have hG2 := hidP (RGoes.below hH.out hb2)
  have c0H := hidP c0
  have e3H := hidP e3
  obtain ⟨B, hB⟩ : ∃ B, w2.heap.size = B := ⟨_, rfl⟩
  have hBH := hidP hB
  clear hAH hb2 h2 e1 hv hq hm c0 e3 hB
  go_wp2_with fail
  go_loopw [9, 10] (fun lv k wr => ∃ j : Nat, j ≤ m ∧ k = .int .i64 j ∧ Hid (wr.ownsRow B 3 1 lv (remI a (x.ps.take j)).length ((remI a (x.ps.take j)).map encZ) ∧ Below B w2 wr)) (fun _ k _ => m - (intOf k).toNat)
  case atStart => exact ⟨0, by omega, rfl, World.ownsRow_nil _ _ _ _, Below.refl _ _⟩
  case round =>
    obtain ⟨j, hj, rfl, hI⟩ := hrel
    have hb : Hid (Below w2.heap.size w2 wr) := by have := hI.out.2; rw [← hBH.out] at this; exact this
    have c0 := (Mv.below (E := fun _ => False) hb.out).cell (fun h => h) c0H.out
    have e3 := (Mv.below (E := fun _ => False) hb.out).cell (fun h => h) e3H.out
    by_cases hlt : j < m
    · have hltI : (j : Int) < (m : Int) := by omega
      obtain ⟨y, hy⟩ : ∃ y, x.ps[j]? = some y := ⟨_, List.getElem?_eq_getElem (by have := hmH.out; omega)⟩
      have hst := remI_take (a := a) hy
      rcases hqH.out with hq | ⟨g2, o2, rfl, hc⟩
      · rw [hq] at hy; simp at hy
      · have cy := (Mv.below (E := fun _ => False) hb.out).cell (fun h => h) (hc j y hy)
        clear hy hc
        by_cases he : y = a
        · subst he
          rw [if_pos rfl, List.append_nil] at hst
          have fin : Hid (wr.ownsRow B 3 1 u9 (remI y (x.ps.take (j + 1))).length ((remI y (x.ps.take (j + 1))).map encZ) ∧ Below B w2 wr) := by
            show _ ∧ _
            rw [hst]; exact hI.out
          clear hst hI
          go_wp2_with fail
          exact ⟨⟨j + 1, by omega, by go_num, fin⟩, by simp [intOf]; omega⟩
        · rw [if_neg he] at hst
          have hlr : (remI a (x.ps.take j)).length ≤ 1000 := Nat.le_trans (List.length_filter_le _ _) (by rw [List.length_take]; omega)
          obtain ⟨v', W', hrun, hown, hb3, p', n', c', hv'⟩ := app_int1 (x := y) hI.out.1 (by omega) (by have := hI.out.2.size; have := hBH.out; omega)
          have fin : Hid (W'.ownsRow B 3 1 v' (remI a (x.ps.take (j + 1))).length ((remI a (x.ps.take (j + 1))).map encZ) ∧ Below B w2 W') := by
            show _ ∧ _
            rw [hst]; exact ⟨hown, hI.out.2.trans hb3⟩
          subst hv'
          obtain ⟨W3, hW3⟩ : ∃ W3, wr.alloc (.cells #[.int .i64 y] 3) = W3 := ⟨_, rfl⟩
          rw [hW3] at hrun
          clear hst hI hown hb3 hlr
          go_wp2_with (first | rw [hW3] | (at_builtin; refine wpList_append_run rfl _ _ 43 rfl _ _ _ _ rfl rfl hrun ?_))
          exact ⟨⟨j + 1, by omega, by go_num, fin⟩, by simp [intOf]; omega⟩
    · have hge : ¬ (j : Int) < (m : Int) := by omega
      obtain ⟨p', n', c', hv'⟩ : ∃ p n c, u9 = .slice p n c := by
        rcases hI.out.1.2 with ⟨e, _⟩ | ⟨g, cp, cur, e, _⟩
        · exact ⟨_, _, _, e⟩
        · exact ⟨_, _, _, e⟩
      subst hv'
      have ho := hI.out.1
      rw [List.take_of_length_le (by have := hmH.out; omega)] at ho
      have hcp := hidP (own_cap ho)
      have hn' : Hid (n' = (remI a x.ps).length) := by
        show _ = _
        rcases ho.2 with ⟨e, e2⟩ | ⟨g, cp, cur, e, _⟩
        · injection e with _ e4 _; omega
        · injection e with _ e4 _
      have f3 := ((Mv.below (E := fun _ => False) hb.out).froz (a := ⟨g, i * 2 + 1, none⟩) (fun h => h) (cell_lt e3H.out)).trans (own_froz (j := i * 2 + 1) h2H.out.row (by rw [e1H.out]; rfl))
      have hG3 : Hid (RGoes R w1 { R with l := R.l.set i ⟨x.nm, remI a x.ps, .slice p' n' c'⟩ } (wr.setCell ⟨g, i * 2 + 1, none⟩ (.slice p' n' c'))) := by
        refine hG2.out.trans (h2H.out.turnP hxH.out e1H.out (Mv.below hb.out) (IR.own ho) (fun k hk => ?_))
        rcases ho.2 with ⟨e, _⟩ | ⟨g4, cp, cur, e, hg4, hh4, _⟩
        · rw [e] at hk; cases hk
        · rw [e] at hk; cases hk
          have := hBH.out
          exact ⟨lt_of_heap hh4, by show w2.heap.size ≤ g4; omega⟩
      obtain ⟨W4, hW4⟩ : ∃ W4, wr.setCell ⟨g, i * 2 + 1, none⟩ (.slice p' n' c') = W4 := ⟨_, rfl⟩
      rw [hW4] at hG3
      clear hI ho
      by_cases hem : remI a x.ps = []
      · have hn0 : n' = 0 := by have := hn'.out; rw [hem] at this; exact this
        subst hn0
        have hNN : Hid (N = noteP R.ns x.nm) := by have := hNH.out; rw [if_pos hem] at this; exact this.symm
        have r4 := hG3.out.r
        obtain ⟨p2, m2, c2, hnv⟩ := r4.nts.shape
        have hm2 : m2 = R.ns.length := by
          have := r4.nts.len
          simp only at this hnv
          rw [hnv] at this
          exact this
        simp only at hnv
        have c1 := r4.c1
        have f1 := r4.f1
        simp only at c1 f1
        rw [hnv] at c1
        have hm2H := hidP hm2
        have hnvH := hidP hnv
        have hns4 := hidP r4.nts
        have hm2l : m2 ≤ 1000 := by omega
        clear r4 hnv hm2 hem hn' hNH
        go_wp2_with (rw [hW4])
        clear c0 e3 hb hW4 f3
        obtain ⟨V5, hV5⟩ : ∃ V5, V5 = wr := ⟨_, rfl⟩
        subst hV5
        go_loop [11, 12] (fun nb2 k => ∃ t : Nat, t ≤ m2 ∧ k = .int .i64 t ∧ nb2 = .bool (inN (R.ns.take t) xn)) (fun _ k => m2 - (intOf k).toNat)
        case atStart => exact ⟨0, by omega, rfl, rfl⟩
        case round =>
          obtain ⟨t, ht, rfl, rfl⟩ := hrel
          by_cases htl : t < m2
          · have htI : (t : Int) < (m2 : Int) := by omega
            obtain ⟨z, hz⟩ : ∃ z, R.ns[t]? = some z := ⟨_, List.getElem?_eq_getElem (by have := hm2H.out; omega)⟩
            obtain ⟨g5, o5, cap5, e5, _, _, _, hc5, _⟩ := hns4.out.some (by intro e; rw [e] at hz; simp at hz)
            rw [hnvH.out] at e5
            injection e5 with e5 _ _
            subst e5
            have cz := hc5 t z hz
            have hst : inN (R.ns.take (t + 1)) xn = (inN (R.ns.take t) xn || decide (z = xn)) := by
              unfold inN
              rw [List.take_add_one, hz, List.any_append]
              simp
            have heq : (z.toList == xn.toList) = decide (z = xn) := by
              rw [Bool.eq_iff_iff, bytes_beq_iff]; simp
            obtain ⟨mb, hmb⟩ : ∃ mb, inN (R.ns.take t) xn = mb := ⟨_, rfl⟩
            rw [hmb] at hst
            rw [hmb]
            clear hmb hz hc5
            cases mb with
            | true =>
              rw [Bool.true_or] at hst
              have hstH := hidP hst
              clear hst
              go_wp2_with fail
              exact ⟨⟨t + 1, by omega, by go_num, by rw [hstH.out]⟩, by simp [intOf]; omega⟩
            | false =>
              rw [Bool.false_or] at hst
              have hstH := hidP hst
              clear hst
              go_wp2_with fail
              exact ⟨⟨t + 1, by omega, by go_num, by rw [hstH.out]⟩, by simp [intOf]; omega⟩
          · have htg : ¬ (t : Int) < (m2 : Int) := by omega
            have hta : Hid (R.ns.take t = R.ns) := by show _ = _; rw [List.take_of_length_le (by have := hm2H.out; omega)]
            rw [hta.out]
            cases hin : inN R.ns xn with
            | true =>
              have hN2 : Hid (N = R.ns) := by
                show _ = _
                rw [hNN.out, hxnH.out]; unfold noteP; rw [if_pos hin]
              clear hin
              go_wp2_with fail
              go_ret
              exact ⟨rfl, _, hcp.out, R.nv, by rw [hN2.out]; exact hG3.out⟩
            | false =>
              have hN2 : Hid (N = R.ns ++ [xn]) := by
                show _ = _
                rw [hNN.out, hxnH.out]; unfold noteP; rw [hin]; rfl
              obtain ⟨W6, hW6⟩ : ∃ W6, W4.alloc (.cells #[.string xn] 9) = W6 := ⟨_, rfl⟩
              have hb6 : Below W4.heap.size W4 W6 := by rw [← hW6]; exact (Below.refl _ _).alloc (Nat.le_refl _) _
              have hsW : W6.cell? ⟨W4.heap.size, 0, none⟩ = some (.string xn) := by rw [← hW6]; exact cell_at rfl rfl
              have h6 := hG3.out.r.below hb6
              obtain ⟨v6, W7, hrun, hns7, mv7, hat7⟩ := h6.nts.append (c := 1) hsW (by simp only; omega) 28
              simp only at hrun hns7 mv7 hat7
              obtain ⟨p7, n7, c7, hv7⟩ := hns7.shape
              have hbn : ¬ nb R.nv = some R.b := fun e => (hH.out.n2 _ e).1 rfl
              have c17 := mv7.cell (a := ⟨R.b, 1, none⟩) hbn ((Mv.below (E := fun _ => False) hb6).cell (fun h => h) c1)
              have f17 := (mv7.froz (a := ⟨R.b, 1, none⟩) hbn (cell_lt ((Mv.below (E := fun _ => False) hb6).cell (fun h => h) c1))).trans (((Mv.below (E := fun _ => False) hb6).froz (a := ⟨R.b, 1, none⟩) (fun h => h) (cell_lt c1)).trans f1)
              have fin : Hid (RGoes R w1 { R with l := R.l.set i ⟨x.nm, remI a x.ps, .slice p' 0 c'⟩, nv := v6, ns := R.ns ++ [xn] } (W7.setCell ⟨R.b, 1, none⟩ v6)) := by
                refine (hG3.out.trans (RGoes.below hG3.out.r hb6)).trans (h6.turnM mv7 hns7 (fun k hk => ?_))
                rcases hat7 with q | ⟨y, q1, q2⟩
                · exact .inl (q ▸ hk)
                · rw [hk] at q1; cases q1; exact .inr q2
              rw [hnvH.out] at hrun
              subst hv7
              clear hin hns7 mv7 hat7 h6 hb6 hsW hG3 hns4 hNN
              go_wp2_with (first | rw [hW6] | (at_builtin; refine wpList_append_run rfl _ _ 28 rfl _ _ _ _ rfl rfl hrun ?_))
              go_ret
              exact ⟨rfl, _, hcp.out, _, by rw [hN2.out]; exact fin.out⟩
      · have hn0 : n' ≠ 0 := fun e => hem (List.eq_nil_of_length_eq_zero (by rw [← hn'.out, e]))
        have hnI : decide ((n' : Int) = 0) = false := by simp; omega
        have hNN : Hid (N = R.ns) := by have := hNH.out; rw [if_neg hem] at this; exact this.symm
        clear hem hn'
        go_wp2_with (rw [hW4])
        go_ret
        exact ⟨rfl, _, hcp.out, R.nv, by rw [hNN.out]; exact hG3.out⟩
end Go.Proofs.Ytfmceioiglmepaa
