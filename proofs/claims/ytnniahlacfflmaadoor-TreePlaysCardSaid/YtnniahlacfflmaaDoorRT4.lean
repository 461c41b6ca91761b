/- TreePlays: Mount, Unmount of the document's tree. -/
import Derived.Test.YtnniahlacfflmaaDoorRT3
import Derived.Test.YtnniahlacfflmaaDoorRZ2
namespace Go.Proofs.YtnniahlacfflmaaDoor
open Go.RowKit Go.Shelf
attribute [local go_sem] Oper.semAt_some
theorem Rm1.cutrun {W : World} {v : Value} {L : List (ByteArray × ByteArray)} (h : Rm1.SV W v L) {i : Nat} (hi : i < L.length) (hl : L.length ≤ 100000) :
    ∃ pt nt ct, (∀ W, (Instr.slice 45 v none (some (.int .i64 i)) none).run Tryd.prog W = .ok (.slice pt nt ct) W) ∧
    ∃ p1 n1 c1 W1, (Builtin.append_ #[45, 45] 45 #[.slice none 0 0, .slice pt nt ct]).run Tryd.prog W = .ok (.slice p1 n1 c1) W1 ∧ Below W.heap.size W W1 ∧
    ∃ pd nd cd, (∀ W, (Instr.slice 45 v (some (.int .i64 ((i : Int) + 1))) none none).run Tryd.prog W = .ok (.slice pd nd cd) W) ∧
    ∃ p2 n2 c2 W2, (Builtin.append_ #[45, 45] 45 #[.slice p1 n1 c1, .slice pd nd cd]).run Tryd.prog W1 = .ok (.slice p2 n2 c2) W2 ∧ Rm1.SV W2 (.slice p2 n2 c2) (L.take i ++ L.drop (i + 1)) ∧ Below W.heap.size W W2 ∧ ∀ k, nbk (.slice p2 n2 c2) = some k → W.heap.size ≤ k := by
  obtain ⟨tv, htv, svt⟩ := Rm1.slice_hi h (k := i) (by omega)
  obtain ⟨pt, ct, rfl⟩ := svt.shape
  have lt1 : (L.take i).length ≤ 100000 := by rw [List.length_take]; omega
  have lt2 : (L.drop (i + 1)).length ≤ 100000 := by rw [List.length_drop]; omega
  obtain ⟨v1, W1, hr1, sv1, mv1, at1⟩ := Rm1.SV.cat (v := .slice none 0 0) (l := []) (.inl ⟨rfl, rfl⟩) svt (by simp) (by omega)
  rw [List.nil_append] at sv1
  obtain ⟨p1, c1, rfl⟩ := sv1.shape
  have nb1 : ∀ b, nbk (.slice p1 (L.take i).length c1) = some b → W.heap.size ≤ b := fun b e => by
    rcases at1 with z | ⟨k', z, hk'⟩
    · rw [e] at z; cases z
    · rw [e] at z; injection z with z; omega
  have b1 : Below W.heap.size W W1 := mv1.toBelow (Nat.le_refl _) (fun b _ e => by cases e)
  obtain ⟨dv, hdv, svd, nbd⟩ := Rm1.slice_lo h (k := i + 1) (by omega)
  obtain ⟨pd, cd, rfl⟩ := svd.shape
  have svd1 := svd.mv (F := fun _ => False) (Mv.below b1) (fun _ _ h => h)
  obtain ⟨v2, W2, hr2, sv2, mv2, at2⟩ := Rm1.SV.cat sv1 svd1 (by omega) (by omega)
  obtain ⟨p2, c2, rfl⟩ := sv2.shape
  refine ⟨pt, _, ct, htv, p1, _, c1, W1, hr1, b1, pd, _, cd, fun W => hdv W, p2, _, c2, W2, hr2, sv2, b1.trans (mv2.toBelow b1.size (fun b hb e => by have := nb1 b e; omega)), fun k e => ?_⟩
  rcases at2 with z | ⟨k', z, hk'⟩
  · exact nb1 k (z ▸ e)
  · rw [e] at z; injection z with z; have := b1.size; omega
theorem Rf1.cutrun {W : World} {v : Value} {L : List (ByteArray × Bool)} (h : Rf1.SV W v L) {i : Nat} (hi : i < L.length) (hl : L.length ≤ 100000) :
    ∃ pt nt ct, (∀ W, (Instr.slice 43 v none (some (.int .i64 i)) none).run Tryd.prog W = .ok (.slice pt nt ct) W) ∧
    ∃ p1 n1 c1 W1, (Builtin.append_ #[43, 43] 43 #[.slice none 0 0, .slice pt nt ct]).run Tryd.prog W = .ok (.slice p1 n1 c1) W1 ∧ Below W.heap.size W W1 ∧
    ∃ pd nd cd, (∀ W, (Instr.slice 43 v (some (.int .i64 ((i : Int) + 1))) none none).run Tryd.prog W = .ok (.slice pd nd cd) W) ∧
    ∃ p2 n2 c2 W2, (Builtin.append_ #[43, 43] 43 #[.slice p1 n1 c1, .slice pd nd cd]).run Tryd.prog W1 = .ok (.slice p2 n2 c2) W2 ∧ Rf1.SV W2 (.slice p2 n2 c2) (L.take i ++ L.drop (i + 1)) ∧ Below W.heap.size W W2 ∧ ∀ k, nbk (.slice p2 n2 c2) = some k → W.heap.size ≤ k := by
  obtain ⟨tv, htv, svt⟩ := Rf1.slice_hi h (k := i) (by omega)
  obtain ⟨pt, ct, rfl⟩ := svt.shape
  have lt1 : (L.take i).length ≤ 100000 := by rw [List.length_take]; omega
  have lt2 : (L.drop (i + 1)).length ≤ 100000 := by rw [List.length_drop]; omega
  obtain ⟨v1, W1, hr1, sv1, mv1, at1⟩ := Rf1.SV.cat (v := .slice none 0 0) (l := []) (.inl ⟨rfl, rfl⟩) svt (by simp) (by omega)
  rw [List.nil_append] at sv1
  obtain ⟨p1, c1, rfl⟩ := sv1.shape
  have nb1 : ∀ b, nbk (.slice p1 (L.take i).length c1) = some b → W.heap.size ≤ b := fun b e => by
    rcases at1 with z | ⟨k', z, hk'⟩
    · rw [e] at z; cases z
    · rw [e] at z; injection z with z; omega
  have b1 : Below W.heap.size W W1 := mv1.toBelow (Nat.le_refl _) (fun b _ e => by cases e)
  obtain ⟨dv, hdv, svd, nbd⟩ := Rf1.slice_lo h (k := i + 1) (by omega)
  obtain ⟨pd, cd, rfl⟩ := svd.shape
  have svd1 := svd.mv (F := fun _ => False) (Mv.below b1) (fun _ _ h => h)
  obtain ⟨v2, W2, hr2, sv2, mv2, at2⟩ := Rf1.SV.cat sv1 svd1 (by omega) (by omega)
  obtain ⟨p2, c2, rfl⟩ := sv2.shape
  refine ⟨pt, _, ct, htv, p1, _, c1, W1, hr1, b1, pd, _, cd, fun W => hdv W, p2, _, c2, W2, hr2, sv2, b1.trans (mv2.toBelow b1.size (fun b hb e => by have := nb1 b e; omega)), fun k e => ?_⟩
  rcases at2 with z | ⟨k', z, hk'⟩
  · exact nb1 k (z ▸ e)
  · rw [e] at z; injection z with z; have := b1.size; omega
/-- Mount, plainly. -/
def rMountP (R : Rf) (t s : ByteArray) : Int × Rf :=
  if isP s = false then (111, R) else if thF s R.l = false then (110, R) else if ((R.l[posF s R.l]?).map (·.2)).getD false = false then (110, R) else if (mIx s R.mt).isSome = true then (112, R) else (0, { R with mt := R.mt ++ [(t, s)] })
theorem thF_at {s : ByteArray} {l : List (ByteArray × Bool)} (h : thF s l = true) : ∃ f, l[posF s l]? = some (s, f) := by
  unfold thF at h
  have h := of_decide_eq_true h
  cases e : l[posF s l]? with
  | none => rw [e] at h; cases h
  | some x =>
    rw [e] at h
    simp only [Option.map_some, Option.some.injEq] at h
    exact ⟨x.2, by rw [← h]⟩
set_option maxRecDepth 100000 in
set_option maxHeartbeats 4000000 in
theorem rmount_any {W : World} {rb : Nat} {E : Nat → Prop} {R : Rf} (h : Rt W rb E R) (hl : R.l.length ≤ 100000) (hm : R.mt.length ≤ 100000) (t s : ByteArray) (hz : s.size ≤ 100000) :
    Calls Tryd.prog 17 #[.pointer (some ⟨rb, 0, none⟩), .string t, .string s] W fun e V => e = .returned (.int .i64 (rMountP R t s).1) ∧ Rto W rb E (rMountP R t s).2 V := by
  have hA := hidP (rat_any h hl s)
  have hP := hidP (fun w => rispath_any s w hz)
  have hRH := hidP h
  obtain ⟨q, hq⟩ : ∃ q, posF s R.l = q := ⟨_, rfl⟩
  obtain ⟨ok, hok⟩ : ∃ ok, thF s R.l = ok := ⟨_, rfl⟩
  obtain ⟨ip, hip⟩ : ∃ ip, isP s = ip := ⟨_, rfl⟩
  rw [hq, hok] at hA
  have hqH := hidP hq
  rw [hip] at hP
  have hSame : Hid (∀ V, Below W.heap.size W V → Rto W rb E R V) := fun V b => h.same b
  cases ip with
  | false =>
    have er : rMountP R t s = (111, R) := by unfold rMountP; rw [if_pos hip]
    rw [er]
    clear h hq hok hip er hRH
    go_enter Tryd.func17, Tryd.ntmps17
    go_wp2_with fail
    refine hA.out.mono ?_
    rintro e w1 ⟨rfl, b1⟩
    have fin := hidP (hSame.out w1 b1)
    have hP1 := hidP (hP.out w1)
    clear hA b1 hSame hP
    go_wp2_with fail
    refine hP1.out.mono ?_
    rintro e w2 ⟨rfl, rfl⟩
    clear hP1
    go_wp2_with fail
    go_ret
    exact ⟨rfl, fin.out⟩
  | true =>
    cases ok with
    | false =>
      have er : rMountP R t s = (110, R) := by unfold rMountP; rw [if_neg (by rw [hip]; decide), if_pos hok]
      rw [er]
      clear h hq hok hip er hRH
      go_enter Tryd.func17, Tryd.ntmps17
      go_wp2_with fail
      refine hA.out.mono ?_
      rintro e w1 ⟨rfl, b1⟩
      have fin := hidP (hSame.out w1 b1)
      have hP1 := hidP (hP.out w1)
      clear hA b1 hSame hP
      go_wp2_with fail
      refine hP1.out.mono ?_
      rintro e w2 ⟨rfl, rfl⟩
      clear hP1
      go_wp2_with fail
      go_ret
      exact ⟨rfl, fin.out⟩
    | true =>
      obtain ⟨fo_, hat⟩ := thF_at hok
      rw [hq] at hat
      obtain ⟨vl, vs, vm, ⟨c0, c1, c2⟩, f, ⟨s0, s1, s2⟩, n, d, hE⟩ := (id h : Rt W rb E R)
      obtain ⟨g, o, cap, rfl, rs⟩ := s0.resolve_left (fun z => by rw [z.2] at hat; cases hat)
      obtain ⟨r0, r1⟩ := rs.ra.at hat
      simp only at r0 r1
      obtain ⟨m, hlen⟩ : ∃ m, R.l.length = m := ⟨_, rfl⟩
      rw [hlen] at c0 hl
      have hqm : q < m := by rw [← hlen]; exact (List.getElem?_eq_some_iff.1 hat).1
      have hqI : (q : Int) < (m : Int) := by omega
      have hq0 : (0 : Int) ≤ (q : Int) := by omega
      have hqc : q < cap := by have := rs.le; omega
      have hcs : Hid (∀ V, Below W.heap.size W V → V.cell? ⟨rb, 0, none⟩ = some (.slice (some ⟨g, o, none⟩) m cap) ∧ V.cell? ⟨g, o + q * 2 + 1, none⟩ = some (.bool fo_)) := fun V b => ⟨bcell b (cell_lt c0) c0, bcell b (cell_lt r1) r1⟩
      have hM := hidP (fun V (b : Below W.heap.size W V) => rmounted_any (h.below b) hm s)
      have hRw := hidP (fun V (b : Below W.heap.size W V) => h.below b)
      clear h c0 c1 c2 f s0 s1 s2 n d hE rs r0 r1 hq hlen
      have hgd : ((R.l[q]?).map (·.2)).getD false = fo_ := by rw [hat]; rfl
      cases fo_ with
      | false =>
        have er : rMountP R t s = (110, R) := by unfold rMountP; rw [if_neg (by rw [hip]; decide), if_neg (by rw [hok]; decide), hqH.out, if_pos hgd]
        rw [er]
        clear hok hip er hRH hat hgd
        go_enter Tryd.func17, Tryd.ntmps17
        go_wp2_with fail
        refine hA.out.mono ?_
        rintro e w1 ⟨rfl, b1⟩
        have fin := hidP (hSame.out w1 b1)
        have hP1 := hidP (hP.out w1)
        obtain ⟨k0, k1⟩ := hcs.out w1 b1
        clear hA b1 hSame hP hcs hM hRw
        go_wp2_with fail
        refine hP1.out.mono ?_
        rintro e w2 ⟨rfl, rfl⟩
        clear hP1
        go_wp2_with fail
        go_ret
        exact ⟨rfl, fin.out⟩
      | true =>
        cases hix : mIx s R.mt with
        | some i =>
          have er : rMountP R t s = (112, R) := by unfold rMountP; rw [if_neg (by rw [hip]; decide), if_neg (by rw [hok]; decide), hqH.out, if_neg (by rw [hgd]; decide), if_pos (by rw [hix]; rfl)]
          have em : mInt s R.mt = (i : Nat) := by unfold mInt; rw [hix]
          have hi0 : (0 : Int) ≤ (i : Int) := by omega
          rw [er]
          clear hok hip er hRH hat hgd hix
          go_enter Tryd.func17, Tryd.ntmps17
          go_wp2_with fail
          refine hA.out.mono ?_
          rintro e w1 ⟨rfl, b1⟩
          have fin := hidP (hSame.out w1 b1)
          have hP1 := hidP (hP.out w1)
          have hM1' := hM.out w1 b1
          rw [em] at hM1'
          have hM1 := hidP hM1'
          obtain ⟨k0, k1⟩ := hcs.out w1 b1
          clear hA b1 hSame hP hcs hM hRw hM1' em
          go_wp2_with fail
          refine hP1.out.mono ?_
          rintro e w2 ⟨rfl, rfl⟩
          clear hP1
          go_wp2_with fail
          refine hM1.out.mono ?_
          rintro e w2 ⟨rfl, rfl⟩
          clear hM1
          go_wp2_with fail
          go_ret
          exact ⟨rfl, fin.out⟩
        | none =>
          have er : rMountP R t s = (0, { R with mt := R.mt ++ [(t, s)] }) := by unfold rMountP; rw [if_neg (by rw [hip]; decide), if_neg (by rw [hok]; decide), hqH.out, if_neg (by rw [hgd]; decide), if_neg (by rw [hix]; decide)]
          have em : mInt s R.mt = -1 := by unfold mInt; rw [hix]
          rw [er]
          have hfin : Hid (∀ V, Below W.heap.size W V → ∃ pm nm cm, V.cell? ⟨rb, 2, none⟩ = some (.slice pm nm cm) ∧ V.frozen? ⟨rb, 2, none⟩ = false ∧ ∀ B, V.heap.size = B → ∃ p2 n2 c2 X, (Builtin.append_ #[45, 45] 45 #[.slice pm nm cm, .slice (some ⟨B, 0, none⟩) 1 1]).run Tryd.prog (V.alloc (.cells #[.string t, .string s] 75)) = .ok (.slice p2 n2 c2) X ∧ X.cell? ⟨rb, 2, none⟩ = some (.slice pm nm cm) ∧ X.frozen? ⟨rb, 2, none⟩ = false ∧ ∀ U, X.setCell ⟨rb, 2, none⟩ (.slice p2 n2 c2) = U → Rto W rb E { R with mt := R.mt ++ [(t, s)] } U) := fun V b => by
            have hV := hRw.out V b
            obtain ⟨vl, vs, vm, ⟨_, _, c2⟩, f, ⟨_, _, s2⟩, ⟨_, _, n2⟩, _⟩ := (id hV : Rt V rb E R)
            obtain ⟨pm, cm, rfl⟩ := s2.shape
            refine ⟨pm, _, cm, c2, f 2 (by omega), fun B hB => ?_⟩
            obtain ⟨v', X, hr, sv, mv, at2⟩ := s2.push (t, s) (by omega) hB
            obtain ⟨p2, c2', rfl⟩ := sv.shape
            refine ⟨p2, _, c2', X, hr, mv.cell (a := ⟨rb, 2, none⟩) (fun e => n2 e) c2, (mv.froz (a := ⟨rb, 2, none⟩) (fun e => n2 e) (cell_lt c2)).trans (f 2 (by omega)), fun U hU => ?_⟩
            obtain ⟨E', g1, g2, g3⟩ := hV.put2 c2 mv sv (new_of at2) hU
            exact ⟨E', g1, (Mv.below b).trans' g2, Gr.mono b.size g3⟩
          clear hok hip er hRH hat hgd hix
          go_enter Tryd.func17, Tryd.ntmps17
          go_wp2_with fail
          refine hA.out.mono ?_
          rintro e w1 ⟨rfl, b1⟩
          have hP1 := hidP (hP.out w1)
          have hM1' := hM.out w1 b1
          rw [em] at hM1'
          have hM1 := hidP hM1'
          obtain ⟨k0, k1⟩ := hcs.out w1 b1
          obtain ⟨pm, nm, cm, x0, x1, happ⟩ := hfin.out w1 b1
          obtain ⟨B, hB⟩ : ∃ B, w1.heap.size = B := ⟨_, rfl⟩
          obtain ⟨p2, n2, c2, X, hr, x2, x3, hU⟩ := happ B hB
          obtain ⟨A, hA1⟩ : ∃ A, w1.alloc (.cells #[.string t, .string s] 75) = A := ⟨_, rfl⟩
          rw [hA1] at hr
          obtain ⟨U, hU1⟩ : ∃ U, X.setCell ⟨rb, 2, none⟩ (.slice p2 n2 c2) = U := ⟨_, rfl⟩
          have fin := hidP (hU U hU1)
          clear hA b1 hSame hP hcs hM hRw hM1' em hfin happ hU
          go_wp2_with fail
          refine hP1.out.mono ?_
          rintro e w2 ⟨rfl, rfl⟩
          clear hP1
          go_wp2_with fail
          refine hM1.out.mono ?_
          rintro e w2 ⟨rfl, rfl⟩
          clear hM1
          go_wp2_with (first | rw [hA1] | rw [hU1] | (at_builtin; refine wpList_append_run rfl _ _ 45 rfl _ _ _ _ rfl rfl hr ?_))
          go_ret
          exact ⟨rfl, fin.out⟩
end Go.Proofs.YtnniahlacfflmaaDoor
