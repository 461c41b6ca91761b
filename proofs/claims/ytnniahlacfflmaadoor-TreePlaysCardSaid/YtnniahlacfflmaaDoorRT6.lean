/- TreePlays: Remove of the document's tree. -/
import Derived.Test.YtnniahlacfflmaaDoorRT5
namespace Go.Proofs.YtnniahlacfflmaaDoor
open Go.RowKit Go.Shelf
attribute [local go_sem] Oper.semAt_some
theorem rMark_len (s : ByteArray) : ∀ l : List (ByteArray × Int), (rMark s l).length ≤ l.length + 1
  | [] => Nat.le_refl _
  | (p, n) :: r => by
    unfold rMark
    split
    · simp
    · have := rMark_len s r
      simp; omega
theorem rMark_bd {s : ByteArray} {k : Int} (hk : 0 ≤ k) : ∀ {l : List (ByteArray × Int)}, (∀ e ∈ l, 0 ≤ e.2 ∧ e.2 ≤ k) → ∀ e ∈ rMark s l, 0 ≤ e.2 ∧ e.2 ≤ k + 1
  | [], _, e, he => by
    have : e = (s, 1) := by simpa [rMark] using he
    rw [this]; exact ⟨by show (0 : Int) ≤ 1; decide, by show (1 : Int) ≤ _; omega⟩
  | (p, n) :: r, h, e, he => by
    unfold rMark at he
    have h0 := h (p, n) (List.mem_cons_self ..)
    simp only at h0
    split at he
    · rcases List.mem_cons.1 he with rfl | he
      · exact ⟨by show 0 ≤ n + 1; omega, by show n + 1 ≤ _; omega⟩
      · have := h e (List.mem_cons_of_mem _ he); omega
    · rcases List.mem_cons.1 he with rfl | he
      · exact ⟨h0.1, by show n ≤ _; omega⟩
      · exact rMark_bd hk (fun z hz => h z (List.mem_cons_of_mem _ hz)) e he
theorem marks2 {W V0 : World} {rb : Nat} {E : Nat → Prop} {R1 : Rf} (h : Rto W rb E R1 V0) (hl : R1.st.length ≤ 90000) (hb : ∀ e ∈ R1.st, 0 ≤ e.2 ∧ e.2 ≤ 900000) (s q : ByteArray) :
    Calls Tryd.prog 34 #[.pointer (some ⟨rb, 0, none⟩), .string s] V0 fun e V1 => e = .returned (.tuple #[]) ∧ Calls Tryd.prog 34 #[.pointer (some ⟨rb, 0, none⟩), .string q] V1 fun e V2 => e = .returned (.tuple #[]) ∧ Rto W rb E { R1 with st := rMark q (rMark s R1.st) } V2 := by
  obtain ⟨E1, a1, a2, a3⟩ := h
  refine (rmark_any a1 (by omega) (fun e he => by have := hb e he; omega) s).mono ?_
  rintro e V1 ⟨rfl, E2, b1, b2, b3⟩
  have hl2 := rMark_len s R1.st
  refine ⟨rfl, (rmark_any b1 (by show (rMark s R1.st).length ≤ _; omega) (fun e he => by have := rMark_bd (k := 900000) (by decide) hb e he; omega) q).mono ?_⟩
  rintro e V2 ⟨rfl, E3, d1, d2, d3⟩
  have m1 : Mv E W V1 := a2.trans a3 b2
  have g1 : Gr E W E2 := fun k hk => by
    rcases b3 k hk with z | z
    · exact a3 k z
    · exact .inr (Nat.le_trans a2.size z)
  exact ⟨rfl, E3, d1, m1.trans g1 d2, fun k hk => by
    rcases d3 k hk with z | z
    · exact g1 k z
    · exact .inr (Nat.le_trans m1.size z)⟩
def rRemoveP (R : Rf) (s : ByteArray) : Int × Rf :=
  if isP s = false then (111, R) else if thF s R.l = false then (110, R) else if s = rootS ∨ (mIx s R.mt).isSome = true then (112, R) else if (R.l.any fun e => inS s (abv e.1)) = true then (112, R) else (0, ⟨R.l.take (posF s R.l) ++ R.l.drop (posF s R.l + 1), rMark (fo s) (rMark s R.st), R.mt⟩)
set_option maxRecDepth 100000 in
set_option maxHeartbeats 8000000 in
theorem rremove_any {W : World} {rb : Nat} {E : Nat → Prop} {R : Rf} (h : Rt W rb E R) (hl : R.l.length ≤ 100000) (hm : R.mt.length ≤ 100000) (hst : R.st.length ≤ 90000) (hb : ∀ e ∈ R.st, 0 ≤ e.2 ∧ e.2 ≤ 900000) (hh : ∀ e ∈ R.l, hd (byt e.1)) (s : ByteArray) (hz : s.size ≤ 100000) :
    Calls Tryd.prog 15 #[.pointer (some ⟨rb, 0, none⟩), .string s] W fun e V => e = .returned (.int .i64 (rRemoveP R s).1) ∧ Rto W rb E (rRemoveP R s).2 V := by
  have hA := hidP (rat_any h hl s)
  have hP := hidP (fun w => rispath_any s w hz)
  obtain ⟨q, hq⟩ : ∃ q, posF s R.l = q := ⟨_, rfl⟩
  obtain ⟨ok, hok⟩ : ∃ ok, thF s R.l = ok := ⟨_, rfl⟩
  obtain ⟨ip, hip⟩ : ∃ ip, isP s = ip := ⟨_, rfl⟩
  rw [hq, hok] at hA
  rw [hip] at hP
  have hSame : Hid (∀ V, Below W.heap.size W V → Rto W rb E R V) := fun V b => h.same b
  cases ip with
  | false =>
    have er : rRemoveP R s = (111, R) := by unfold rRemoveP; rw [if_pos hip]
    rw [er]
    clear h hq hok hip er
    go_enter Tryd.func15, Tryd.ntmps15
    go_wp2_with fail
    refine hA.out.mono ?_
    rintro e w1 ⟨rfl, b1⟩
    have fin := hidP (hSame.out w1 b1)
    have hP1 := hidP (hP.out w1)
    clear hA b1 hSame hP
    go_wp2_with fail
    refine hP1.out.mono ?_
    rintro e w2 ⟨rfl, rfl⟩
    clear hP1
    go_wp2_with fail
    go_ret
    exact ⟨rfl, fin.out⟩
  | true =>
    have hsd : Hid (hd (byt s)) := isP_hd hip
    cases ok with
    | false =>
      have er : rRemoveP R s = (110, R) := by unfold rRemoveP; rw [if_neg (by rw [hip]; decide), if_pos hok]
      rw [er]
      clear h hq hok hip er
      go_enter Tryd.func15, Tryd.ntmps15
      go_wp2_with fail
      refine hA.out.mono ?_
      rintro e w1 ⟨rfl, b1⟩
      have fin := hidP (hSame.out w1 b1)
      have hP1 := hidP (hP.out w1)
      clear hA b1 hSame hP
      go_wp2_with fail
      refine hP1.out.mono ?_
      rintro e w2 ⟨rfl, rfl⟩
      clear hP1
      go_wp2_with fail
      go_ret
      exact ⟨rfl, fin.out⟩
    | true =>
      by_cases hroot : s = rootS
      · have er : rRemoveP R s = (112, R) := by unfold rRemoveP; rw [if_neg (by rw [hip]; decide), if_neg (by rw [hok]; decide), if_pos (.inl hroot)]
        rw [er]
        have hrb : (s.toList == [47]) = true := by rw [hroot, show rootS.toList = [47] by rw [Lib.toList_data]; rfl]; rfl
        clear h hq hok hip er hroot
        go_enter Tryd.func15, Tryd.ntmps15
        go_wp2_with fail
        refine hA.out.mono ?_
        rintro e w1 ⟨rfl, b1⟩
        have fin := hidP (hSame.out w1 b1)
        have hP1 := hidP (hP.out w1)
        clear hA b1 hSame hP
        go_wp2_with fail
        refine hP1.out.mono ?_
        rintro e w2 ⟨rfl, rfl⟩
        clear hP1
        go_wp2_with fail
        go_ret
        exact ⟨rfl, fin.out⟩
      · have hrb : (s.toList == [47]) = false := by
          have := beqT s rootS
          rw [show rootS.toList = [47] by rw [Lib.toList_data]; rfl] at this
          rw [this]; simpa using hroot
        have hM := hidP (fun V (b : Below W.heap.size W V) => rmounted_any (h.below b) hm s)
        cases hix : mIx s R.mt with
        | some i =>
          have er : rRemoveP R s = (112, R) := by unfold rRemoveP; rw [if_neg (by rw [hip]; decide), if_neg (by rw [hok]; decide), if_pos (.inr (by rw [hix]; rfl))]
          have em : mInt s R.mt = (i : Nat) := by unfold mInt; rw [hix]
          have hi0 : (0 : Int) ≤ (i : Int) := by omega
          rw [er]
          clear h hq hok hip er hroot hix
          go_enter Tryd.func15, Tryd.ntmps15
          go_wp2_with fail
          refine hA.out.mono ?_
          rintro e w1 ⟨rfl, b1⟩
          have fin := hidP (hSame.out w1 b1)
          have hP1 := hidP (hP.out w1)
          have hM1' := hM.out w1 b1
          rw [em] at hM1'
          have hM1 := hidP hM1'
          clear hA b1 hSame hP hM hM1' em
          go_wp2_with fail
          refine hP1.out.mono ?_
          rintro e w2 ⟨rfl, rfl⟩
          clear hP1
          go_wp2_with fail
          refine hM1.out.mono ?_
          rintro e w2 ⟨rfl, rfl⟩
          clear hM1
          go_wp2_with fail
          go_ret
          exact ⟨rfl, fin.out⟩
        | none =>
          have em : mInt s R.mt = -1 := by unfold mInt; rw [hix]
          have er1 : (R.l.any fun e => inS s (abv e.1)) = true → rRemoveP R s = (112, R) := fun z => by unfold rRemoveP; rw [if_neg (by rw [hip]; decide), if_neg (by rw [hok]; decide), if_neg (by rw [hix]; simpa using hroot), if_pos z]
          have er0 : (R.l.any fun e => inS s (abv e.1)) = false → rRemoveP R s = (0, ⟨R.l.take q ++ R.l.drop (q + 1), rMark (fo s) (rMark s R.st), R.mt⟩) := fun z => by unfold rRemoveP; rw [if_neg (by rw [hip]; decide), if_neg (by rw [hok]; decide), if_neg (by rw [hix]; simpa using hroot), if_neg (by rw [z]; decide), hq]
          obtain ⟨er, her⟩ : ∃ er, rRemoveP R s = er := ⟨_, rfl⟩
          rw [her]
          obtain ⟨fo_, hat⟩ := thF_at hok
          rw [hq] at hat
          obtain ⟨L, hL⟩ : ∃ L, R.l = L := ⟨_, rfl⟩
          obtain ⟨m, hlen⟩ : ∃ m, R.l.length = m := ⟨_, rfl⟩
          have er1H : Hid ((L.any fun e => inS s (abv e.1)) = true → er = (112, R)) := fun z => her ▸ er1 (hL ▸ z)
          have er0H : Hid ((L.any fun e => inS s (abv e.1)) = false → er = (0, ⟨R.l.take q ++ R.l.drop (q + 1), rMark (fo s) (rMark s R.st), R.mt⟩)) := fun z => her ▸ er0 (hL ▸ z)
          obtain ⟨vl, vs, vm, ⟨c0, c1, c2⟩, f, ⟨s0, s1, s2⟩, ⟨n0, n1, n2⟩, d, hE⟩ := (id h : Rt W rb E R)
          obtain ⟨g, o, cap, rfl, rs⟩ := s0.resolve_left (fun z => by rw [z.2] at hat; cases hat)
          have hil : q < R.l.length := (List.getElem?_eq_some_iff.1 hat).1
          have hcells : Hid (∀ V, Below W.heap.size W V → V.cell? ⟨rb, 0, none⟩ = some (.slice (some ⟨g, o, none⟩) m cap)) := fun V b => by rw [← hlen]; exact bcell b (cell_lt c0) c0
          have hrow : Hid (∀ V, Below W.heap.size W V → ∀ k x, L[k]? = some x → k < m ∧ k < cap ∧ V.cell? ⟨g, o + k * 2, none⟩ = some (.string x.1) ∧ hd (byt x.1)) := fun V b k x hx => by
            rw [← hL] at hx
            have := (List.getElem?_eq_some_iff.1 hx).1
            have := rs.le
            have r0 := (rs.ra.at hx).1
            exact ⟨by omega, by omega, bcell b (cell_lt r0) r0, hh x (List.mem_of_getElem? hx)⟩
          have hcut : Hid (∀ V, Below W.heap.size W V → ∃ pt nt ct, (∀ W, (Instr.slice 43 (.slice (some ⟨g, o, none⟩) m cap) none (some (.int .i64 q)) none).run Tryd.prog W = .ok (.slice pt nt ct) W) ∧
              ∃ p1 n1 c1 W1, (Builtin.append_ #[43, 43] 43 #[.slice none 0 0, .slice pt nt ct]).run Tryd.prog V.drew = .ok (.slice p1 n1 c1) W1 ∧
              ∃ pd nd cd, (∀ W, (Instr.slice 43 (.slice (some ⟨g, o, none⟩) m cap) (some (.int .i64 ((q : Int) + 1))) none none).run Tryd.prog W = .ok (.slice pd nd cd) W) ∧
              ∃ p2 n2 c2 W2, (Builtin.append_ #[43, 43] 43 #[.slice p1 n1 c1, .slice pd nd cd]).run Tryd.prog W1 = .ok (.slice p2 n2 c2) W2 ∧ W1.cell? ⟨rb, 0, none⟩ = some (.slice (some ⟨g, o, none⟩) m cap) ∧ W2.cell? ⟨rb, 0, none⟩ = some (.slice (some ⟨g, o, none⟩) m cap) ∧ W2.frozen? ⟨rb, 0, none⟩ = false ∧ ∀ U, W2.setCell ⟨rb, 0, none⟩ (.slice p2 n2 c2) = U → Rto W rb E { R with l := R.l.take q ++ R.l.drop (q + 1) } U) := fun V b => by
            have hD := (h.below b).below (V := V.drew) ((Below.refl _ _).drew)
            have bD : Below W.heap.size W V.drew := b.trans ⟨rfl, rfl, rfl, Nat.le_refl _, fun _ _ => rfl⟩
            have cD : V.drew.cell? ⟨rb, 0, none⟩ = some (.slice (some ⟨g, o, none⟩) m cap) := by rw [← hlen]; exact bcell bD (cell_lt c0) c0
            have fD : V.drew.frozen? ⟨rb, 0, none⟩ = false := (bfroz bD (cell_lt c0)).trans (f 0 (by omega))
            have sD : Rf1.SV V.drew (.slice (some ⟨g, o, none⟩) m cap) R.l := by rw [← hlen]; exact s0.mv (F := fun _ => False) (Mv.below bD) (fun _ _ f => f)
            obtain ⟨pt, nt, ct, htv, p1, k1, c1', W1, hr1, b1, pd, nd, cd, hdv, p2, k2, c2', W2, hr2, sv2, b2, nb2⟩ := Rf1.cutrun sD hil hl
            refine ⟨pt, nt, ct, htv, p1, k1, c1', W1, hr1, pd, nd, cd, hdv, p2, k2, c2', W2, hr2, bcell b1 (cell_lt cD) cD, bcell b2 (cell_lt cD) cD, (bfroz b2 (cell_lt cD)).trans fD, fun U hU => ?_⟩
            obtain ⟨E', g1, g2, g3⟩ := hD.put0 cD (Mv.below b2) sv2 (.inr nb2) hU
            exact ⟨E', g1, (Mv.below bD).trans' g2, Gr.mono bD.size g3⟩
          have hmarks : Hid (∀ U, Rto W rb E { R with l := R.l.take q ++ R.l.drop (q + 1) } U → _) := fun U hU => marks2 hU hst hb s (fo s)
          have hfo : Hid (∀ w, _) := fun w => rfolder_any s w hsd.out hz
          have hBl : Hid (∀ (x : ByteArray × Bool) w, hd (byt x.1) → _) := fun x w hx => rbelow_any x.1 s w hx hsd.out
          have hget : Hid (∀ k, k < m → ∃ x, L[k]? = some x) := fun k hk => ⟨_, List.getElem?_eq_getElem (by rw [← hL, hlen]; exact hk)⟩
          have htake : Hid (∀ k, m ≤ k → L.take k = L) := fun k hk => List.take_of_length_le (by rw [← hL, hlen]; exact hk)
          have hqm : q < m := by omega
          have hii : (q : Int) < (m : Int) := by omega
          have hi0 : (0 : Int) ≤ (q : Int) := by omega
          have hmI : (m : Int) ≤ 100000 := by omega
          have hwi : IntKind.i64.wrap ((q : Int) + 1) = (q : Int) + 1 := by rw [IntKind.wrap_i64]; omega
          clear h hq hok hip hroot hix her er1 er0 hat hlen c0 c1 c2 f s0 s1 s2 n0 n1 n2 d hE rs hil hh hl hm hst hb hL
          go_enter Tryd.func15, Tryd.ntmps15
          go_wp2_with fail
          refine hA.out.mono ?_
          rintro e w1 ⟨rfl, b1⟩
          have hP1 := hidP (hP.out w1)
          have hM1' := hM.out w1 b1
          rw [em] at hM1'
          have hM1 := hidP hM1'
          have b1H := hidP b1
          have k0 := hcells.out w1 b1
          clear hA b1 hP hM hM1' em
          go_wp2_with fail
          refine hP1.out.mono ?_
          rintro e w2 ⟨rfl, hw⟩
          replace hw := hw.symm
          subst hw
          clear hP1
          go_wp2_with fail
          refine hM1.out.mono ?_
          rintro e w2 ⟨rfl, hw⟩
          replace hw := hw.symm
          subst hw
          clear hM1
          go_wp2_with fail
          go_loop [7] (fun k => ∃ j : Nat, j ≤ m ∧ k = .int .i64 j ∧ Hid (∀ e ∈ L.take j, inS s (abv e.1) = false)) (fun k => m - (intOf k).toNat)
          case atStart => exact ⟨0, Nat.zero_le _, rfl, hidP (fun e he => by simp at he)⟩
          case round =>
            obtain ⟨j, hj, rfl, hI⟩ := hrel
            by_cases hlt : j < m
            · obtain ⟨x, hx⟩ := hget.out j hlt
              obtain ⟨_, hjc, r1, hdx⟩ := hrow.out w1 b1H.out j x hx
              have hB := hBl.out x w1 hdx
              obtain ⟨xp, hxp⟩ : ∃ z, x.1 = z := ⟨_, rfl⟩
              rw [hxp] at r1 hdx hB
              have hjI : (j : Int) < (m : Int) := by omega
              obtain ⟨b, hb⟩ : ∃ b, inS s (abv xp) = b := ⟨_, rfl⟩
              rw [hb] at hB
              have hBH := hidP hB
              cases b with
              | true =>
                have ea : Hid (er = (112, R)) := er1H.out (List.any_eq_true.2 ⟨x, List.mem_of_getElem? hx, by rw [hxp]; exact hb⟩)
                have fin := hidP (hSame.out w1 b1H.out)
                clear hx hxp hdx hb hB hI hcut hmarks
                go_wp2_with fail
                refine hBH.out.mono ?_
                rintro e w2 ⟨rfl, hw⟩
                replace hw := hw.symm
                subst hw
                clear hBH
                go_wp2_with fail
                go_ret
                exact ⟨by rw [ea.out]; rfl, by rw [ea.out]; exact fin.out⟩
              | false =>
                have nx : Hid (∀ e ∈ L.take (j + 1), inS s (abv e.1) = false) := fun e he => by
                  rw [take_succ_get hx] at he
                  rcases List.mem_append.1 he with z | z
                  · exact hI.out e z
                  · have : e = x := by simpa using z
                    rw [this, hxp]; exact hb
                clear hx hxp hdx hb hB hI
                go_wp2_with fail
                refine hBH.out.mono ?_
                rintro e w2 ⟨rfl, hw⟩
                replace hw := hw.symm
                subst hw
                clear hBH
                go_wp2_with fail
                exact ⟨⟨j + 1, by omega, by go_num, nx⟩, by simp [intOf]; omega⟩
            · obtain rfl : j = m := by omega
              have hjI : ¬ (j : Int) < (j : Int) := by omega
              have hjd : decide ((j : Int) < (j : Int)) = false := decide_eq_false hjI
              have ea : Hid (er = (0, ⟨R.l.take q ++ R.l.drop (q + 1), rMark (fo s) (rMark s R.st), R.mt⟩)) := er0H.out (by
                have := hI.out
                rw [htake.out j (Nat.le_refl _)] at this
                cases e : (L.any fun e => inS s (abv e.1)) with
                | false => rfl
                | true =>
                  obtain ⟨y, hy, hy2⟩ := List.any_eq_true.1 e
                  rw [this y hy] at hy2; cases hy2)
              obtain ⟨pt, nt, ct, htv, p1, n1, c1, W1, hr1, pd, nd, cd, hdv, p2, n2, c2, W2, hr2, hS1, hS2, hf2, hU⟩ := hcut.out w1 b1H.out
              have hS0 : w1.drew.cell? ⟨rb, 0, none⟩ = some (.slice (some ⟨g, o, none⟩) j cap) := k0
              obtain ⟨V, hV⟩ : ∃ V, W2.setCell ⟨rb, 0, none⟩ (.slice p2 n2 c2) = V := ⟨_, rfl⟩
              have hmk := hidP (hmarks.out V (hU V hV))
              clear hI hget hrow htake hcut hmarks hU
              go_upto_region 13 with fail
              refine Zs.region (S := fun W' => W'.cell? ⟨rb, 0, none⟩ = some (.slice (some ⟨g, o, none⟩) j cap)) 18 (by kernel_rfl) ?_
              refine Zs.pure (i := 0) (oi := ⟨some 49, _, _, _, _, _⟩) (v := .pointer (some ⟨rb, 0, none⟩)) rfl (by kernel_rfl) (by kernel_rfl) (by kernel_rfl) (by decide) (fun _ _ _ h => h) (Or.inl ⟨by rfl, ?hy0⟩) hS0 ?_
              case hy0 => (intro w hSw; (try dsimp only at hSw); go_simp; try with_reducible rfl)
              simp only [Act.put, List.setIfInBounds_toArray, List.set_cons_zero, List.set_cons_succ]
              refine Zs.pure (i := 1) (oi := ⟨some 50, _, _, _, _, _⟩) (v := .pointer (some ⟨rb, 0, none⟩)) rfl (by kernel_rfl) (by kernel_rfl) (by kernel_rfl) (by decide) (fun _ _ _ h => h) (Or.inl ⟨by rfl, ?hy1⟩) hS0 ?_
              case hy1 => (intro w hSw; (try dsimp only at hSw); go_simp; try with_reducible rfl)
              simp only [Act.put, List.setIfInBounds_toArray, List.set_cons_zero, List.set_cons_succ]
              refine Zs.pure (i := 2) (oi := ⟨some 51, _, _, _, _, _⟩) (v := .pointer (some ⟨rb, 0, none⟩)) rfl (by kernel_rfl) (by kernel_rfl) (by kernel_rfl) (by decide) (fun _ _ _ h => h) (Or.inl ⟨by rfl, ?hy2⟩) hS0 ?_
              case hy2 => (intro w hSw; (try dsimp only at hSw); go_simp; try with_reducible rfl)
              simp only [Act.put, List.setIfInBounds_toArray, List.set_cons_zero, List.set_cons_succ]
              refine Zs.pure (i := 3) (oi := ⟨some 52, _, _, _, _, _⟩) (v := .pointer (some ⟨rb, 0, none⟩)) rfl (by kernel_rfl) (by kernel_rfl) (by kernel_rfl) (by decide) (fun _ _ _ h => h) (Or.inl ⟨by rfl, ?hy3⟩) hS0 ?_
              case hy3 => (intro w hSw; (try dsimp only at hSw); go_simp; try with_reducible rfl)
              simp only [Act.put, List.setIfInBounds_toArray, List.set_cons_zero, List.set_cons_succ]
              refine Zs.takeC (i := 4) (oi := ⟨some 53, _, _, _, _, _⟩) (v := .slice (some ⟨g, o, none⟩) j cap) 10 rfl (by kernel_rfl) (by kernel_rfl) (by kernel_rfl) (by decide) (by kernel_rfl) (by kernel_rfl) (by kernel_rfl) (fun _ _ _ h => h) (Or.inl ⟨by rfl, ?hy4⟩) hS0 ?_
              case hy4 => (intro w hSw; (try dsimp only at hSw); go_simp; try with_reducible rfl)
              simp only [Act.put, List.setIfInBounds_toArray, List.set_cons_zero, List.set_cons_succ]
              refine Zs.pure (i := 5) (oi := ⟨some 54, _, _, _, _, _⟩) (v := .int .i64 q) rfl (by kernel_rfl) (by kernel_rfl) (by kernel_rfl) (by decide) (fun _ _ _ h => h) (Or.inl ⟨by rfl, ?hy5⟩) hS0 ?_
              case hy5 => (intro w hSw; (try dsimp only at hSw); go_simp; try with_reducible rfl)
              simp only [Act.put, List.setIfInBounds_toArray, List.set_cons_zero, List.set_cons_succ]
              refine Zs.pure (i := 6) (oi := ⟨some 55, _, _, _, _, _⟩) (v := .slice pt nt ct) rfl (by kernel_rfl) (by kernel_rfl) (by kernel_rfl) (by decide) (fun _ _ _ h => h) (Or.inl ⟨by rfl, ?hy6⟩) hS0 ?_
              case hy6 => (intro w hSw; (try dsimp only at hSw); go_simp; try with_reducible rfl)
              simp only [Act.put, List.setIfInBounds_toArray, List.set_cons_zero, List.set_cons_succ]
              refine Zs.pure (i := 8) (oi := ⟨some 57, _, _, _, _, _⟩) (v := .pointer (some ⟨rb, 0, none⟩)) rfl (by kernel_rfl) (by kernel_rfl) (by kernel_rfl) (by decide) (fun _ _ _ h => h) (Or.inl ⟨by rfl, ?hy8⟩) hS0 ?_
              case hy8 => (intro w hSw; (try dsimp only at hSw); go_simp; try with_reducible rfl)
              simp only [Act.put, List.setIfInBounds_toArray, List.set_cons_zero, List.set_cons_succ]
              refine Zs.pure (i := 9) (oi := ⟨some 58, _, _, _, _, _⟩) (v := .pointer (some ⟨rb, 0, none⟩)) rfl (by kernel_rfl) (by kernel_rfl) (by kernel_rfl) (by decide) (fun _ _ _ h => h) (Or.inl ⟨by rfl, ?hy9⟩) hS0 ?_
              case hy9 => (intro w hSw; (try dsimp only at hSw); go_simp; try with_reducible rfl)
              simp only [Act.put, List.setIfInBounds_toArray, List.set_cons_zero, List.set_cons_succ]
              refine Zs.pure (i := 10) (oi := ⟨some 59, _, _, _, _, _⟩) (v := .pointer (some ⟨rb, 0, none⟩)) rfl (by kernel_rfl) (by kernel_rfl) (by kernel_rfl) (by decide) (fun _ _ _ h => h) (Or.inl ⟨by rfl, ?hy10⟩) hS0 ?_
              case hy10 => (intro w hSw; (try dsimp only at hSw); go_simp; try with_reducible rfl)
              simp only [Act.put, List.setIfInBounds_toArray, List.set_cons_zero, List.set_cons_succ]
              refine Zs.takeC (i := 11) (oi := ⟨some 60, _, _, _, _, _⟩) (v := .slice (some ⟨g, o, none⟩) j cap) 10 rfl (by kernel_rfl) (by kernel_rfl) (by kernel_rfl) (by decide) (by kernel_rfl) (by kernel_rfl) (by kernel_rfl) (fun _ _ _ h => h) (Or.inl ⟨by rfl, ?hy11⟩) hS0 ?_
              case hy11 => (intro w hSw; (try dsimp only at hSw); go_simp; try with_reducible rfl)
              simp only [Act.put, List.setIfInBounds_toArray, List.set_cons_zero, List.set_cons_succ]
              refine Zs.pure (i := 12) (oi := ⟨some 61, _, _, _, _, _⟩) (v := .int .i64 q) rfl (by kernel_rfl) (by kernel_rfl) (by kernel_rfl) (by decide) (fun _ _ _ h => h) (Or.inl ⟨by rfl, ?hy12⟩) hS0 ?_
              case hy12 => (intro w hSw; (try dsimp only at hSw); go_simp; try with_reducible rfl)
              simp only [Act.put, List.setIfInBounds_toArray, List.set_cons_zero, List.set_cons_succ]
              refine Zs.pure (i := 13) (oi := ⟨some 62, _, _, _, _, _⟩) (v := .int .i64 (q + 1)) rfl (by kernel_rfl) (by kernel_rfl) (by kernel_rfl) (by decide) (fun _ _ _ h => h) (Or.inl ⟨by rfl, ?hy13⟩) hS0 ?_
              case hy13 => (intro w hSw; (try dsimp only at hSw); go_simp; try with_reducible rfl)
              simp only [Act.put, List.setIfInBounds_toArray, List.set_cons_zero, List.set_cons_succ]
              refine Zs.pure (i := 14) (oi := ⟨some 63, _, _, _, _, _⟩) (v := .slice pd nd cd) rfl (by kernel_rfl) (by kernel_rfl) (by kernel_rfl) (by decide) (fun _ _ _ h => h) (Or.inl ⟨by rfl, ?hy14⟩) hS0 ?_
              case hy14 => (intro w hSw; (try dsimp only at hSw); go_simp; try with_reducible rfl)
              simp only [Act.put, List.setIfInBounds_toArray, List.set_cons_zero, List.set_cons_succ]
              refine Zs.one (i := 7) (oi := ⟨some 56, _, _, _, _, _⟩) (by kernel_rfl) rfl (fun K hK => ?_)
              refine step_append_run rfl (.const (.slice none 0 0)) (.tmp 55) 43 rfl _ _ _ _ rfl rfl hr1 ?_
              refine hK.out _ _ (fun _ => hS1) ?_
              clear hK K
              try simp only [Act.put, List.setIfInBounds_toArray, List.set_cons_zero, List.set_cons_succ]
              refine Zs.one (i := 15) (oi := ⟨some 64, _, _, _, _, _⟩) (by kernel_rfl) rfl (fun K hK => ?_)
              refine step_append_run rfl (.tmp 56) (.tmp 63) 43 rfl _ _ _ _ rfl rfl hr2 ?_
              refine hK.out _ _ (fun _ => hS2) ?_
              clear hK K
              try simp only [Act.put, List.setIfInBounds_toArray, List.set_cons_zero, List.set_cons_succ]
              refine Zs.pure (i := 16) (oi := ⟨some 65, _, _, _, _, _⟩) (v := .pointer (some ⟨rb, 0, none⟩)) rfl (by kernel_rfl) (by kernel_rfl) (by kernel_rfl) (by decide) (fun _ _ _ h => h) (Or.inl ⟨by rfl, ?hy16⟩) hS2 ?_
              case hy16 => (intro w hSw; (try dsimp only at hSw); go_simp; try with_reducible rfl)
              simp only [Act.put, List.setIfInBounds_toArray, List.set_cons_zero, List.set_cons_succ]
              refine Zs.pure (i := 17) (oi := ⟨some 66, _, _, _, _, _⟩) (v := .pointer (some ⟨rb, 0, none⟩)) rfl (by kernel_rfl) (by kernel_rfl) (by kernel_rfl) (by decide) (fun _ _ _ h => h) (Or.inl ⟨by rfl, ?hy17⟩) hS2 ?_
              case hy17 => (intro w hSw; (try dsimp only at hSw); go_simp; try with_reducible rfl)
              simp only [Act.put, List.setIfInBounds_toArray, List.set_cons_zero, List.set_cons_succ]
              refine Zs.one (i := 18) (oi := ⟨none, _, _, _, _, _⟩) (by kernel_rfl) rfl (fun K hK => ?_)
              go_simp
              go_wp2_with (rw [hV])
              refine hK.out _ _ (fun q => absurd q (by decide)) ?_
              clear hK K
              try simp only [Act.put, List.setIfInBounds_toArray, List.set_cons_zero, List.set_cons_succ]
              refine Zs.done (by kernel_rfl) ?_ _
              clear hS0 hS1 hS2 hr1 hr2 htv hdv hf2
              go_wp2_with (rw [hV])
              refine hmk.out.mono ?_
              rintro e V1 ⟨rfl, h2⟩
              have h2H := hidP h2
              have hf1 := hidP (hfo.out V1)
              clear hmk h2
              go_wp2_with fail
              refine hf1.out.mono ?_
              rintro e w2 ⟨rfl, hw⟩
              replace hw := hw.symm
              subst hw
              clear hf1
              go_wp2_with fail
              refine h2H.out.mono ?_
              rintro e V2 ⟨rfl, h3⟩
              have fin := hidP h3
              clear h2H h3
              go_wp2_with fail
              go_ret
              exact ⟨by rw [ea.out]; rfl, by rw [ea.out]; exact fin.out⟩
end Go.Proofs.YtnniahlacfflmaaDoor
