/- TreePlays: Make of the document's tree. -/
import Derived.Test.YtnniahlacfflmaaDoorRT7
namespace Go.Proofs.YtnniahlacfflmaaDoor
open Go.RowKit Go.Shelf
attribute [local go_sem] Oper.semAt_some
def rMakeP (R : Rf) (s : ByteArray) (f : Bool) : Int × Rf :=
  if isP s = false then (111, R) else if thF s R.l = true then (112, R) else if thF (fo s) R.l = false then (110, R) else if ((R.l[posF (fo s) R.l]?).map (·.2)).getD false = false then (110, R) else (0, ⟨R.l.take (posF s R.l) ++ (s, f) :: R.l.drop (posF s R.l), rMark (fo s) (rMark s R.st), R.mt⟩)
theorem posF_le (s : ByteArray) (l : List (ByteArray × Bool)) : posF s l ≤ l.length := (List.takeWhile_sublist _).length_le
/-- What Make does to the row, step by step. -/
theorem Rt.make {W V : World} {rb : Nat} {E : Nat → Prop} {R : Rf} (h : Rt W rb E R) (hl : R.l.length ≤ 100000) (b : Below W.heap.size W V) (s : ByteArray) (f : Bool) {q : Nat} (hq : q ≤ R.l.length) {B : Nat} (hB : V.heap.size = B) :
    ∃ p0 c0 g o c X, V.cell? ⟨rb, 0, none⟩ = some (.slice p0 R.l.length c0) ∧
      (Builtin.append_ #[43, 43] 43 #[.slice p0 R.l.length c0, .slice (some ⟨B, 0, none⟩) 1 1]).run Tryd.prog (V.alloc (.cells #[.string ⟨#[]⟩, .bool false] 49)) = .ok (.slice (some ⟨g, o, none⟩) (R.l.length + 1) c) X ∧ X.cell? ⟨rb, 0, none⟩ = some (.slice p0 R.l.length c0) ∧ X.frozen? ⟨rb, 0, none⟩ = false ∧
      ∀ U, X.setCell ⟨rb, 0, none⟩ (.slice (some ⟨g, o, none⟩) (R.l.length + 1) c) = U → U.drew.cell? ⟨rb, 0, none⟩ = some (.slice (some ⟨g, o, none⟩) (R.l.length + 1) c) ∧
        ∃ p1 n1 c1 p2 n2 c2 r Y, (∀ W, (Instr.slice 43 (.slice (some ⟨g, o, none⟩) (R.l.length + 1) c) (some (.int .i64 ((q : Int) + 1))) none none).run Tryd.prog W = .ok (.slice p1 n1 c1) W) ∧ (∀ W, (Instr.slice 43 (.slice (some ⟨g, o, none⟩) (R.l.length + 1) c) (some (.int .i64 q)) none none).run Tryd.prog W = .ok (.slice p2 n2 c2) W) ∧
          (Builtin.copy_ #[43, 43] 3 #[.slice p1 n1 c1, .slice p2 n2 c2]).run Tryd.prog U.drew = .ok r Y ∧ Y.cell? ⟨rb, 0, none⟩ = some (.slice (some ⟨g, o, none⟩) (R.l.length + 1) c) ∧ (∃ u0 u1, Y.cell? ⟨g, o + q * 2, none⟩ = some u0 ∧ Y.cell? ⟨g, o + q * 2 + 1, none⟩ = some u1) ∧ Y.frozen? ⟨g, o + q * 2, none⟩ = false ∧ Y.frozen? ⟨g, o + q * 2 + 1, none⟩ = false ∧ q < c ∧
          ∀ Z, (Y.setCell ⟨g, o + q * 2, none⟩ (.string s)).setCell ⟨g, o + q * 2 + 1, none⟩ (.bool f) = Z → Rto W rb E { R with l := R.l.take q ++ (s, f) :: R.l.drop q } Z := by
  have hV := h.below b
  obtain ⟨vl, vs, vm, ⟨c0, _, _⟩, fr, ⟨s0, _, _⟩, ⟨n0, _, _⟩, _⟩ := (id hV : Rt V rb E R)
  obtain ⟨p0, cc, rfl⟩ := s0.shape
  obtain ⟨v', X, hr, sv, mv, at2⟩ := s0.push (⟨#[]⟩, false) (by omega) hB
  obtain ⟨g, o, c, rfl, rsX⟩ := sv.resolve_left (fun z => by have := z.2; simp at this)
  have el : (R.l ++ [((⟨#[]⟩ : ByteArray), false)]).length = R.l.length + 1 := by simp
  rw [el] at hr sv at2
  have hgl : g < X.heap.size := rsX.rm.lt
  refine ⟨p0, cc, g, o, c, X, c0, hr, mv.cell (a := ⟨rb, 0, none⟩) (fun e => n0 e) c0, (mv.froz (a := ⟨rb, 0, none⟩) (fun e => n0 e) (cell_lt c0)).trans (fr 0 (by omega)), fun U hU => ?_⟩
  have xc := mv.cell (a := ⟨rb, 0, none⟩) (fun e => n0 e) c0
  have hput : Rto V rb E { R with l := R.l ++ [(⟨#[]⟩, false)] } U := hV.put0 c0 mv sv (new_of at2) hU
  obtain ⟨E1, u1, u2, u3⟩ := hput
  have uc : U.cell? ⟨rb, 0, none⟩ = some (.slice (some ⟨g, o, none⟩) (R.l.length + 1) c) := by rw [← hU]; exact World.cell?_setCell_same _ _ _ xc
  have bD : Below U.heap.size U U.drew := (Below.refl _ _).drew
  have uD := u1.below bD
  have ucD : U.drew.cell? ⟨rb, 0, none⟩ = some (.slice (some ⟨g, o, none⟩) (R.l.length + 1) c) := uc
  obtain ⟨vl2, vs2, vm2, ⟨d0, _, _⟩, _, ⟨t0, _, _⟩, ⟨m0, _, _⟩, _⟩ := (id uD : Rt U.drew rb E1 _)
  obtain rfl : vl2 = _ := Option.some.inj (d0.symm.trans ucD)
  obtain ⟨g', o', c', hv', rsU⟩ := t0.resolve_left (fun z => by have := z.2; simp at this)
  simp only [Value.slice.injEq, Option.some.injEq, Addr.mk.injEq, and_true] at hv'
  obtain ⟨⟨rfl, rfl⟩, _, rfl⟩ := hv'
  obtain ⟨p1, n1, c1, p2, n2, c2, r, Y, s1, s2, hcp, mY, yk, ⟨y0, y1, yf0, yf1, hqc⟩, hfin⟩ := Rf1.ins rsU hq s f 3
  have gr : rb ≠ g := fun e => m0 (by rw [e]; rfl)
  refine ⟨ucD, p1, n1, c1, p2, n2, c2, r, Y, s1, s2, hcp, (yk rb 0 gr).trans ucD, ?_, yf0, yf1, hqc, fun Z hZ => ?_⟩
  · obtain ⟨u0, hu0⟩ := Option.isSome_iff_exists.1 y0
    obtain ⟨u1, hu1⟩ := Option.isSome_iff_exists.1 y1
    exact ⟨u0, u1, hu0, hu1⟩
  · obtain ⟨rsZ, mZ⟩ := hfin Z hZ
    have lz : (R.l.take q ++ (s, f) :: R.l.drop q).length = R.l.length + 1 := by simp; omega
    obtain ⟨E2, w1, w2, w3⟩ := uD.in0 (l := R.l.take q ++ (s, f) :: R.l.drop q) ucD (mZ.mono fun k _ e => by rw [e]; rfl) (.inr ⟨g, o, c, by rw [lz], rsZ⟩)
    have mD : Mv E1 U U.drew := Mv.drew _ _
    have m1 : Mv E V Z := (u2.trans u3 mD).trans u3 w2
    exact ⟨E2, w1, (Mv.below b).trans' m1, fun k hk => by
      rcases w3 k hk with z | z
      · rcases u3 k z with y | y
        · exact .inl y
        · exact .inr (Nat.le_trans b.size y)
      · exact .inr (Nat.le_trans (Nat.le_trans b.size u2.size) z)⟩
set_option maxRecDepth 100000 in
set_option maxHeartbeats 8000000 in
theorem rmake_any {W : World} {rb : Nat} {E : Nat → Prop} {R : Rf} (h : Rt W rb E R) (hl : R.l.length ≤ 90000) (hst : R.st.length ≤ 90000) (hb : ∀ e ∈ R.st, 0 ≤ e.2 ∧ e.2 ≤ 900000) (s : ByteArray) (f : Bool) (hz : s.size ≤ 100000) :
    Calls Tryd.prog 11 #[.pointer (some ⟨rb, 0, none⟩), .string s, .bool f] W fun e V => e = .returned (.int .i64 (rMakeP R s f).1) ∧ Rto W rb E (rMakeP R s f).2 V := by
  have hA := hidP (rat_any h (by omega) s)
  have hP := hidP (fun w => rispath_any s w hz)
  obtain ⟨q, hq⟩ : ∃ q, posF s R.l = q := ⟨_, rfl⟩
  obtain ⟨ok, hok⟩ : ∃ ok, thF s R.l = ok := ⟨_, rfl⟩
  obtain ⟨ip, hip⟩ : ∃ ip, isP s = ip := ⟨_, rfl⟩
  have hql : q ≤ R.l.length := hq ▸ posF_le s R.l
  rw [hq, hok] at hA
  rw [hip] at hP
  have hSame : Hid (∀ V, Below W.heap.size W V → Rto W rb E R V) := fun V b => h.same b
  cases ip with
  | false =>
    have er : rMakeP R s f = (111, R) := by unfold rMakeP; rw [if_pos hip]
    rw [er]
    clear h hq hok hip er
    go_enter Tryd.func11, Tryd.ntmps11
    go_wp2_with fail
    refine hA.out.mono ?_
    rintro e w1 ⟨rfl, b1⟩
    have fin := hidP (hSame.out w1 b1)
    have hP1 := hidP (hP.out w1)
    clear hA b1 hSame hP
    go_wp2_with fail
    refine hP1.out.mono ?_
    rintro e w2 ⟨rfl, hw⟩
    replace hw := hw.symm
    subst hw
    clear hP1
    go_wp2_with fail
    go_ret
    exact ⟨rfl, fin.out⟩
  | true =>
    have hsd := isP_hd hip
    cases ok with
    | true =>
      have er : rMakeP R s f = (112, R) := by unfold rMakeP; rw [if_neg (by rw [hip]; decide), if_pos hok]
      rw [er]
      clear h hq hok hip er
      go_enter Tryd.func11, Tryd.ntmps11
      go_wp2_with fail
      refine hA.out.mono ?_
      rintro e w1 ⟨rfl, b1⟩
      have fin := hidP (hSame.out w1 b1)
      have hP1 := hidP (hP.out w1)
      clear hA b1 hSame hP
      go_wp2_with fail
      refine hP1.out.mono ?_
      rintro e w2 ⟨rfl, hw⟩
      replace hw := hw.symm
      subst hw
      clear hP1
      go_wp2_with fail
      go_ret
      exact ⟨rfl, fin.out⟩
    | false =>
      have hfo : Hid (∀ w, _) := fun w => rfolder_any s w hsd hz
      have hA2' := fun V (b : Below W.heap.size W V) => rat_any (h.below b) (by omega) (fo s)
      obtain ⟨q2, hq2⟩ : ∃ q2, posF (fo s) R.l = q2 := ⟨_, rfl⟩
      obtain ⟨ok2, hok2⟩ : ∃ ok2, thF (fo s) R.l = ok2 := ⟨_, rfl⟩
      rw [hq2, hok2] at hA2'
      have hA2 := hidP hA2'
      clear hA2'
      cases ok2 with
      | false =>
        have er : rMakeP R s f = (110, R) := by unfold rMakeP; rw [if_neg (by rw [hip]; decide), if_neg (by rw [hok]; decide), if_pos hok2]
        rw [er]
        clear h hq hok hip er hq2 hok2
        go_enter Tryd.func11, Tryd.ntmps11
        go_wp2_with fail
        refine hA.out.mono ?_
        rintro e w1 ⟨rfl, b1⟩
        have hP1 := hidP (hP.out w1)
        have hF1 := hidP (hfo.out w1)
        have hA1 := hidP (hA2.out w1 b1)
        have b1H := hidP b1
        clear hA b1 hP hfo hA2
        go_wp2_with fail
        refine hP1.out.mono ?_
        rintro e w2 ⟨rfl, hw⟩
        replace hw := hw.symm
        subst hw
        clear hP1
        go_wp2_with fail
        refine hF1.out.mono ?_
        rintro e w2 ⟨rfl, hw⟩
        replace hw := hw.symm
        subst hw
        clear hF1
        go_wp2_with fail
        refine hA1.out.mono ?_
        rintro e w3 ⟨rfl, b3⟩
        have b3W := hidP (b1H.out.trans (b3.mono b1H.out.size))
        have fin := hidP (hSame.out w3 b3W.out)
        clear hA1 b3 hSame
        go_wp2_with fail
        go_ret
        exact ⟨rfl, fin.out⟩
      | true =>
        obtain ⟨fl, hat⟩ := thF_at hok2
        rw [hq2] at hat
        have hgd : ((R.l[posF (fo s) R.l]?).map (·.2)).getD false = fl := by rw [hq2, hat]; rfl
        obtain ⟨vl, vs, vm, ⟨c0, _, _⟩, _, ⟨s0, _, _⟩, _⟩ := (id h : Rt W rb E R)
        obtain ⟨g0, o0, cap, rfl, rs⟩ := s0.resolve_left (fun z => by rw [z.2] at hat; cases hat)
        obtain ⟨_, r1⟩ := rs.ra.at hat
        simp only at r1
        obtain ⟨m, hlen⟩ : ∃ m, R.l.length = m := ⟨_, rfl⟩
        have hq2m : q2 < m := by rw [← hlen]; exact (List.getElem?_eq_some_iff.1 hat).1
        have hq2I : (q2 : Int) < (m : Int) := by omega
        have hq20 : (0 : Int) ≤ (q2 : Int) := by omega
        have hq2c : q2 < cap := by have := rs.le; omega
        have hcs : Hid (∀ V, Below W.heap.size W V → V.cell? ⟨rb, 0, none⟩ = some (.slice (some ⟨g0, o0, none⟩) m cap) ∧ V.cell? ⟨g0, o0 + q2 * 2 + 1, none⟩ = some (.bool fl)) := fun V b => ⟨by rw [← hlen]; exact bcell b (cell_lt c0) c0, bcell b (cell_lt r1) r1⟩
        cases fl with
        | false =>
          have er : rMakeP R s f = (110, R) := by unfold rMakeP; rw [if_neg (by rw [hip]; decide), if_neg (by rw [hok]; decide), if_neg (by rw [hok2]; decide), if_pos hgd]
          rw [er]
          clear h hq hok hip er hq2 hok2 hat hgd c0 s0 rs r1 hlen
          go_enter Tryd.func11, Tryd.ntmps11
          go_wp2_with fail
          refine hA.out.mono ?_
          rintro e w1 ⟨rfl, b1⟩
          have hP1 := hidP (hP.out w1)
          have hF1 := hidP (hfo.out w1)
          have hA1 := hidP (hA2.out w1 b1)
          have b1H := hidP b1
          clear hA b1 hP hfo hA2
          go_wp2_with fail
          refine hP1.out.mono ?_
          rintro e w2 ⟨rfl, hw⟩
          replace hw := hw.symm
          subst hw
          clear hP1
          go_wp2_with fail
          refine hF1.out.mono ?_
          rintro e w2 ⟨rfl, hw⟩
          replace hw := hw.symm
          subst hw
          clear hF1
          go_wp2_with fail
          refine hA1.out.mono ?_
          rintro e w3 ⟨rfl, b3⟩
          have b3W := hidP (b1H.out.trans (b3.mono b1H.out.size))
          have fin := hidP (hSame.out w3 b3W.out)
          obtain ⟨k0, k1⟩ := hcs.out w3 b3W.out
          clear hA1 b3 hSame hcs
          go_wp2_with fail
          go_ret
          exact ⟨rfl, fin.out⟩
        | true =>
          have er : rMakeP R s f = (0, ⟨R.l.take q ++ (s, f) :: R.l.drop q, rMark (fo s) (rMark s R.st), R.mt⟩) := by unfold rMakeP; rw [if_neg (by rw [hip]; decide), if_neg (by rw [hok]; decide), if_neg (by rw [hok2]; decide), if_neg (by rw [hgd]; decide), hq]
          rw [er]
          have hmk := hidP (fun V (b : Below W.heap.size W V) B (hB : V.heap.size = B) => Rt.make h (by omega) b s f hql hB)
          have hmarks : Hid (∀ U, Rto W rb E { R with l := R.l.take q ++ (s, f) :: R.l.drop q } U → _) := fun U hU => marks2 hU hst hb s (fo s)
          have hfo2 := hidP hfo.out
          obtain ⟨m1, hm1⟩ : ∃ m1, m + 1 = m1 := ⟨_, rfl⟩
          have hmI : (m1 : Int) ≤ 100000 := by omega
          have hqI : (q : Int) < (m1 : Int) := by omega
          have hqN : q < m1 := by omega
          have hq0 : (0 : Int) ≤ (q : Int) := by omega
          have hwi : IntKind.i64.wrap ((q : Int) + 1) = (q : Int) + 1 := by rw [IntKind.wrap_i64]; omega
          have hlenH : Hid (R.l.length = m ∧ R.l.length + 1 = m1) := ⟨hlen, by omega⟩
          clear h hq hok hip er hq2 hok2 hat hgd c0 s0 rs r1 hlen hm1 hql hb hst
          go_enter Tryd.func11, Tryd.ntmps11
          go_wp2_with fail
          refine hA.out.mono ?_
          rintro e w1 ⟨rfl, b1⟩
          have hP1 := hidP (hP.out w1)
          have hF1 := hidP (hfo.out w1)
          have hA1 := hidP (hA2.out w1 b1)
          have b1H := hidP b1
          clear hA b1 hP hfo hA2
          go_wp2_with fail
          refine hP1.out.mono ?_
          rintro e w2 ⟨rfl, hw⟩
          replace hw := hw.symm
          subst hw
          clear hP1
          go_wp2_with fail
          refine hF1.out.mono ?_
          rintro e w2 ⟨rfl, hw⟩
          replace hw := hw.symm
          subst hw
          clear hF1
          go_wp2_with fail
          refine hA1.out.mono ?_
          rintro e w3 ⟨rfl, b3⟩
          have b3W := hidP (b1H.out.trans (b3.mono b1H.out.size))
          obtain ⟨k0, k1⟩ := hcs.out w3 b3W.out
          obtain ⟨B, hB⟩ : ∃ B, w3.heap.size = B := ⟨_, rfl⟩
          obtain ⟨p0, cc, g, o, c, X, z0, hr, x0, xf, hU⟩ := hmk.out w3 b3W.out B hB
          rw [hlenH.out.2] at hU
          rw [hlenH.out.2, hlenH.out.1] at hr
          rw [hlenH.out.1] at z0 x0
          obtain ⟨A, hA9⟩ : ∃ A, w3.alloc (.cells #[.string ⟨#[]⟩, .bool false] 49) = A := ⟨_, rfl⟩
          rw [hA9] at hr
          obtain ⟨U, hU1⟩ : ∃ U, X.setCell ⟨rb, 0, none⟩ (.slice (some ⟨g, o, none⟩) m1 c) = U := ⟨_, rfl⟩
          obtain ⟨hS0, p1, n1, c1, p2, n2, c2, r, Y, hs1, hs2, hcp, y0, ⟨u0, u1, yc0, yc1⟩, yf0, yf1, hqc, hZ⟩ := hU U hU1
          obtain ⟨Z, hZ1⟩ : ∃ Z, (Y.setCell ⟨g, o + q * 2, none⟩ (.string s)).setCell ⟨g, o + q * 2 + 1, none⟩ (.bool f) = Z := ⟨_, rfl⟩
          have hmk2 := hidP (hmarks.out Z (hZ Z hZ1))
          obtain ⟨rfl, rfl⟩ : p0 = some ⟨g0, o0, none⟩ ∧ cc = cap := by
            rw [k0] at z0
            simp only [Option.some.injEq, Value.slice.injEq, true_and] at z0
            exact ⟨z0.1.symm, z0.2.symm⟩
          clear hA1 b3 hSame hcs hmk hmarks hU hZ z0
          go_upto_region 10 with (first | rw [hA9] | rw [hU1] | (at_builtin; refine wpList_append_run rfl _ _ 43 rfl _ _ _ _ rfl rfl hr ?_))
          refine Zs.region (S := fun W' => W'.cell? ⟨rb, 0, none⟩ = some (.slice (some ⟨g, o, none⟩) m1 c)) 13 (by kernel_rfl) ?_
          refine Zs.pure (i := 0) (oi := ⟨some 53, _, _, _, _, _⟩) (v := .pointer (some ⟨rb, 0, none⟩)) rfl (by kernel_rfl) (by kernel_rfl) (by kernel_rfl) (by decide) (fun _ _ _ h => h) (Or.inl ⟨by rfl, ?hy0⟩) hS0 ?_
          case hy0 => (intro w hSw; (try dsimp only at hSw); go_simp; try with_reducible rfl)
          simp only [Act.put, List.setIfInBounds_toArray, List.set_cons_zero, List.set_cons_succ]
          refine Zs.pure (i := 1) (oi := ⟨some 54, _, _, _, _, _⟩) (v := .pointer (some ⟨rb, 0, none⟩)) rfl (by kernel_rfl) (by kernel_rfl) (by kernel_rfl) (by decide) (fun _ _ _ h => h) (Or.inl ⟨by rfl, ?hy1⟩) hS0 ?_
          case hy1 => (intro w hSw; (try dsimp only at hSw); go_simp; try with_reducible rfl)
          simp only [Act.put, List.setIfInBounds_toArray, List.set_cons_zero, List.set_cons_succ]
          refine Zs.pure (i := 2) (oi := ⟨some 55, _, _, _, _, _⟩) (v := .pointer (some ⟨rb, 0, none⟩)) rfl (by kernel_rfl) (by kernel_rfl) (by kernel_rfl) (by decide) (fun _ _ _ h => h) (Or.inl ⟨by rfl, ?hy2⟩) hS0 ?_
          case hy2 => (intro w hSw; (try dsimp only at hSw); go_simp; try with_reducible rfl)
          simp only [Act.put, List.setIfInBounds_toArray, List.set_cons_zero, List.set_cons_succ]
          refine Zs.takeC (i := 3) (oi := ⟨some 56, _, _, _, _, _⟩) (v := .slice (some ⟨g, o, none⟩) m1 c) 10 rfl (by kernel_rfl) (by kernel_rfl) (by kernel_rfl) (by decide) (by kernel_rfl) (by kernel_rfl) (by kernel_rfl) (fun _ _ _ h => h) (Or.inl ⟨by rfl, ?hy3⟩) hS0 ?_
          case hy3 => (intro w hSw; (try dsimp only at hSw); go_simp; try with_reducible rfl)
          simp only [Act.put, List.setIfInBounds_toArray, List.set_cons_zero, List.set_cons_succ]
          refine Zs.pure (i := 4) (oi := ⟨some 57, _, _, _, _, _⟩) (v := .int .i64 q) rfl (by kernel_rfl) (by kernel_rfl) (by kernel_rfl) (by decide) (fun _ _ _ h => h) (Or.inl ⟨by rfl, ?hy4⟩) hS0 ?_
          case hy4 => (intro w hSw; (try dsimp only at hSw); go_simp; try with_reducible rfl)
          simp only [Act.put, List.setIfInBounds_toArray, List.set_cons_zero, List.set_cons_succ]
          refine Zs.pure (i := 5) (oi := ⟨some 58, _, _, _, _, _⟩) (v := .int .i64 (q + 1)) rfl (by kernel_rfl) (by kernel_rfl) (by kernel_rfl) (by decide) (fun _ _ _ h => h) (Or.inl ⟨by rfl, ?hy5⟩) hS0 ?_
          case hy5 => (intro w hSw; (try dsimp only at hSw); go_simp; try with_reducible rfl)
          simp only [Act.put, List.setIfInBounds_toArray, List.set_cons_zero, List.set_cons_succ]
          refine Zs.pure (i := 6) (oi := ⟨some 59, _, _, _, _, _⟩) (v := .slice p1 n1 c1) rfl (by kernel_rfl) (by kernel_rfl) (by kernel_rfl) (by decide) (fun _ _ _ h => h) (Or.inl ⟨by rfl, ?hy6⟩) hS0 ?_
          case hy6 => (intro w hSw; (try dsimp only at hSw); go_simp; try with_reducible rfl)
          simp only [Act.put, List.setIfInBounds_toArray, List.set_cons_zero, List.set_cons_succ]
          refine Zs.pure (i := 7) (oi := ⟨some 60, _, _, _, _, _⟩) (v := .pointer (some ⟨rb, 0, none⟩)) rfl (by kernel_rfl) (by kernel_rfl) (by kernel_rfl) (by decide) (fun _ _ _ h => h) (Or.inl ⟨by rfl, ?hy7⟩) hS0 ?_
          case hy7 => (intro w hSw; (try dsimp only at hSw); go_simp; try with_reducible rfl)
          simp only [Act.put, List.setIfInBounds_toArray, List.set_cons_zero, List.set_cons_succ]
          refine Zs.pure (i := 8) (oi := ⟨some 61, _, _, _, _, _⟩) (v := .pointer (some ⟨rb, 0, none⟩)) rfl (by kernel_rfl) (by kernel_rfl) (by kernel_rfl) (by decide) (fun _ _ _ h => h) (Or.inl ⟨by rfl, ?hy8⟩) hS0 ?_
          case hy8 => (intro w hSw; (try dsimp only at hSw); go_simp; try with_reducible rfl)
          simp only [Act.put, List.setIfInBounds_toArray, List.set_cons_zero, List.set_cons_succ]
          refine Zs.pure (i := 9) (oi := ⟨some 62, _, _, _, _, _⟩) (v := .pointer (some ⟨rb, 0, none⟩)) rfl (by kernel_rfl) (by kernel_rfl) (by kernel_rfl) (by decide) (fun _ _ _ h => h) (Or.inl ⟨by rfl, ?hy9⟩) hS0 ?_
          case hy9 => (intro w hSw; (try dsimp only at hSw); go_simp; try with_reducible rfl)
          simp only [Act.put, List.setIfInBounds_toArray, List.set_cons_zero, List.set_cons_succ]
          refine Zs.takeC (i := 10) (oi := ⟨some 63, _, _, _, _, _⟩) (v := .slice (some ⟨g, o, none⟩) m1 c) 10 rfl (by kernel_rfl) (by kernel_rfl) (by kernel_rfl) (by decide) (by kernel_rfl) (by kernel_rfl) (by kernel_rfl) (fun _ _ _ h => h) (Or.inl ⟨by rfl, ?hy10⟩) hS0 ?_
          case hy10 => (intro w hSw; (try dsimp only at hSw); go_simp; try with_reducible rfl)
          simp only [Act.put, List.setIfInBounds_toArray, List.set_cons_zero, List.set_cons_succ]
          refine Zs.pure (i := 11) (oi := ⟨some 64, _, _, _, _, _⟩) (v := .int .i64 q) rfl (by kernel_rfl) (by kernel_rfl) (by kernel_rfl) (by decide) (fun _ _ _ h => h) (Or.inl ⟨by rfl, ?hy11⟩) hS0 ?_
          case hy11 => (intro w hSw; (try dsimp only at hSw); go_simp; try with_reducible rfl)
          simp only [Act.put, List.setIfInBounds_toArray, List.set_cons_zero, List.set_cons_succ]
          refine Zs.pure (i := 12) (oi := ⟨some 65, _, _, _, _, _⟩) (v := .slice p2 n2 c2) rfl (by kernel_rfl) (by kernel_rfl) (by kernel_rfl) (by decide) (fun _ _ _ h => h) (Or.inl ⟨by rfl, ?hy12⟩) hS0 ?_
          case hy12 => (intro w hSw; (try dsimp only at hSw); go_simp; try with_reducible rfl)
          simp only [Act.put, List.setIfInBounds_toArray, List.set_cons_zero, List.set_cons_succ]
          refine Zs.one (i := 13) (oi := ⟨some 66, _, _, _, _, _⟩) (by kernel_rfl) rfl (fun K hK => ?_)
          refine step_copy_run rfl (.tmp 59) (.tmp 65) 43 rfl _ _ _ _ rfl rfl hcp ?_
          refine hK.out _ _ (fun q => absurd q (by decide)) ?_
          clear hK K
          try simp only [Act.put, List.setIfInBounds_toArray, List.set_cons_zero, List.set_cons_succ]
          refine Zs.done (by kernel_rfl) ?_ _
          clear hS0 hcp hs1 hs2 hr
          go_wp2_with (rw [hZ1])
          refine hmk2.out.mono ?_
          rintro e V1 ⟨rfl, h2⟩
          have h2H := hidP h2
          have hf1 := hidP (hfo2.out V1)
          clear hmk2 h2
          go_wp2_with fail
          refine hf1.out.mono ?_
          rintro e w4 ⟨rfl, hw⟩
          replace hw := hw.symm
          subst hw
          clear hf1
          go_wp2_with fail
          refine h2H.out.mono ?_
          rintro e V2 ⟨rfl, h3⟩
          have fin := hidP h3
          clear h2H h3
          go_wp2_with fail
          go_ret
          exact ⟨rfl, fin.out⟩
end Go.Proofs.YtnniahlacfflmaaDoor
