/- TreePlays: Unmount, Remove of the document's tree. -/
import Derived.Test.YtnniahlacfflmaaDoorRT4
import Derived.Deep.DeepCutAuto
namespace Go.Proofs.YtnniahlacfflmaaDoor
open Go.RowKit Go.Shelf
attribute [local go_sem] Oper.semAt_some
def rUnmountP (R : Rf) (s : ByteArray) : Int × Rf :=
  if isP s = false then (111, R) else if (mIx s R.mt).isSome = false then (110, R) else if (R.mt.any fun e => inS s (abv e.2)) = true then (112, R) else (0, { R with mt := rCut s R.mt })
set_option maxRecDepth 100000 in
set_option maxHeartbeats 8000000 in
theorem runmount_any {W : World} {rb : Nat} {E : Nat → Prop} {R : Rf} (h : Rt W rb E R) (hm : R.mt.length ≤ 100000) (hh : ∀ e ∈ R.mt, hd (byt e.2)) (s : ByteArray) (hz : s.size ≤ 100000) :
    Calls Tryd.prog 19 #[.pointer (some ⟨rb, 0, none⟩), .string s] W fun e V => e = .returned (.int .i64 (rUnmountP R s).1) ∧ Rto W rb E (rUnmountP R s).2 V := by
  have hM := rmounted_any h hm s
  have hP := hidP (rispath_any s W hz)
  have hRH := hidP h
  have hSame := hidP (h.same (Below.refl _ _))
  obtain ⟨ip, hip⟩ : ∃ ip, isP s = ip := ⟨_, rfl⟩
  rw [hip] at hP
  cases ip with
  | false =>
    have er : rUnmountP R s = (111, R) := by unfold rUnmountP; rw [if_pos hip]
    rw [er]
    have hMH := hidP hM
    clear h hM hip er hRH
    go_enter Tryd.func19, Tryd.ntmps19
    go_wp2_with fail
    refine hMH.out.mono ?_
    rintro e w1 ⟨rfl, rfl⟩
    clear hMH
    go_wp2_with fail
    refine hP.out.mono ?_
    rintro e w2 ⟨rfl, rfl⟩
    clear hP
    go_wp2_with fail
    go_ret
    exact ⟨rfl, hSame.out⟩
  | true =>
    have hsd : Hid (hd (byt s)) := isP_hd hip
    cases hix : mIx s R.mt with
    | none =>
      have er : rUnmountP R s = (110, R) := by unfold rUnmountP; rw [if_neg (by rw [hip]; decide), if_pos (by rw [hix]; rfl)]
      have em : mInt s R.mt = -1 := by unfold mInt; rw [hix]
      rw [em] at hM
      rw [er]
      have hMH := hidP hM
      clear h hM hip er hRH hix em
      go_enter Tryd.func19, Tryd.ntmps19
      go_wp2_with fail
      refine hMH.out.mono ?_
      rintro e w1 ⟨rfl, rfl⟩
      clear hMH
      go_wp2_with fail
      refine hP.out.mono ?_
      rintro e w2 ⟨rfl, rfl⟩
      clear hP
      go_wp2_with fail
      go_ret
      exact ⟨rfl, hSame.out⟩
    | some i =>
      have em : mInt s R.mt = (i : Nat) := by unfold mInt; rw [hix]
      rw [em] at hM
      have hMH := hidP hM
      obtain ⟨t0, hat, _, hcut⟩ := (rMt_ix (s := s) (l := R.mt)).1 i hix
      have er1 : (R.mt.any fun e => inS s (abv e.2)) = true → rUnmountP R s = (112, R) := fun z => by unfold rUnmountP; rw [if_neg (by rw [hip]; decide), if_neg (by rw [hix]; simp), if_pos z]
      have er0 : (R.mt.any fun e => inS s (abv e.2)) = false → rUnmountP R s = (0, { R with mt := rCut s R.mt }) := fun z => by unfold rUnmountP; rw [if_neg (by rw [hip]; decide), if_neg (by rw [hix]; simp), if_neg (by rw [z]; decide)]
      obtain ⟨er, her⟩ : ∃ er, rUnmountP R s = er := ⟨_, rfl⟩
      rw [her]
      have er1H : Hid ((R.mt.any fun e => inS s (abv e.2)) = true → er = (112, R)) := fun z => her ▸ er1 z
      have er0H : Hid ((R.mt.any fun e => inS s (abv e.2)) = false → er = (0, { R with mt := rCut s R.mt })) := fun z => her ▸ er0 z
      obtain ⟨vl, vs, vm, ⟨c0, c1, c2⟩, f, ⟨s0, s1, s2⟩, ⟨n0, n1, n2⟩, d, hE⟩ := (id h : Rt W rb E R)
      obtain ⟨g, o, cap, rfl, rs⟩ := s2.resolve_left (fun z => by rw [z.2] at hat; cases hat)
      obtain ⟨L, hL⟩ : ∃ L, R.mt = L := ⟨_, rfl⟩
      obtain ⟨m, hlen⟩ : ∃ m, R.mt.length = m := ⟨_, rfl⟩
      have hil : i < R.mt.length := (List.getElem?_eq_some_iff.1 hat).1
      have hsd2 := (s2.mv (F := fun _ => False) (V := W.drew) (Mv.drew _ _) (fun _ _ h => h))
      obtain ⟨pt, nt, ct, htv, p1, k1, c1', W1, hr1, b1, pd, nd, cd, hdv, p2, k2, c2', W2, hr2, sv2, b2, nb2⟩ := Rm1.cutrun hsd2 hil hm
      rw [hlen] at c2 hm htv hdv hil
      have hii : (i : Int) < (m : Int) := by omega
      have hi0 : (0 : Int) ≤ (i : Int) := by omega
      have hin : ¬ (i : Int) < 0 := by omega
      have hinD : decide ((i : Int) < 0) = false := decide_eq_false hin
      have hmI : (m : Int) ≤ 100000 := by omega
      have hS0 : W.drew.cell? ⟨rb, 2, none⟩ = some (.slice (some ⟨g, o, none⟩) m cap) := c2
      have hS1 : W1.cell? ⟨rb, 2, none⟩ = some (.slice (some ⟨g, o, none⟩) m cap) := bcell b1 (cell_lt hS0) hS0
      have hS2 : W2.cell? ⟨rb, 2, none⟩ = some (.slice (some ⟨g, o, none⟩) m cap) := bcell b2 (cell_lt hS0) hS0
      have hf2 : W2.frozen? ⟨rb, 2, none⟩ = false := (bfroz b2 (cell_lt hS0)).trans (f 2 (by omega))
      obtain ⟨V, hV⟩ : ∃ V, W2.setCell ⟨rb, 2, none⟩ (.slice p2 k2 c2') = V := ⟨_, rfl⟩
      have fin : Hid (Rto W rb E { R with mt := rCut s R.mt } V) := by
        have hD := h.below (V := W.drew) ((Below.refl _ _).drew)
        rw [← hcut] at sv2
        obtain ⟨E', g1, g2, g3⟩ := hD.put2 hS0 (Mv.below b2) sv2 (.inr nb2) hV
        exact ⟨E', g1, (Mv.drew _ _).trans' g2, Gr.mono (Nat.le_refl _) g3⟩
      have hrun : Hid (_ ∧ _) := ⟨hr1, hr2⟩
      have hsl : Hid (_ ∧ _) := ⟨htv, hdv⟩
      have hcell : Hid (_ ∧ _ ∧ _ ∧ _) := ⟨hS0, hS1, hS2, hf2⟩
      have hrow : Hid (∀ k x, L[k]? = some x → k < m ∧ k < cap ∧ W.cell? ⟨g, o + k * 2 + 1, none⟩ = some (.string x.2) ∧ hd (byt x.2)) := fun k x hx => by
        rw [← hL] at hx
        have := (List.getElem?_eq_some_iff.1 hx).1
        have := rs.le
        exact ⟨by omega, by omega, (rs.ra.at hx).2, hh x (List.mem_of_getElem? hx)⟩
      have hget : Hid (∀ k, k < m → ∃ x, L[k]? = some x) := fun k hk => ⟨_, List.getElem?_eq_getElem (by rw [← hL, hlen]; exact hk)⟩
      rw [hL] at er1H er0H fin
      have hwi : IntKind.i64.wrap ((i : Int) + 1) = (i : Int) + 1 := by rw [IntKind.wrap_i64]; omega
      have htake : Hid (∀ k, m ≤ k → L.take k = L) := fun k hk => List.take_of_length_le (by rw [← hL, hlen]; exact hk)
      clear h hM hip her er1 er0 hix em hat hcut c0 c1 f s0 s1 s2 n0 n1 n2 d hE rs hh hsd2 hr1 hr2 htv hdv sv2 b1 b2 nb2 hS0 hS1 hS2 hf2 hlen hil
      go_enter Tryd.func19, Tryd.ntmps19
      go_wp2_with fail
      refine hMH.out.mono ?_
      rintro e w1 ⟨rfl, hw⟩
      replace hw := hw.symm
      subst hw
      clear hMH
      go_wp2_with fail
      refine hP.out.mono ?_
      rintro e w2 ⟨rfl, hw⟩
      replace hw := hw.symm
      subst hw
      clear hP
      go_wp2_with fail
      go_loop [6] (fun k => ∃ j : Nat, j ≤ m ∧ k = .int .i64 j ∧ Hid (∀ e ∈ L.take j, inS s (abv e.2) = false)) (fun k => m - (intOf k).toNat)
      case atStart => exact ⟨0, Nat.zero_le _, rfl, hidP (fun e he => by simp at he)⟩
      case round =>
        obtain ⟨j, hj, rfl, hI⟩ := hrel
        by_cases hlt : j < m
        · obtain ⟨x, hx⟩ := hget.out j hlt
          obtain ⟨_, hjc, r1, hdx⟩ := hrow.out j x hx
          obtain ⟨xp, hxp⟩ : ∃ z, x.2 = z := ⟨_, rfl⟩
          rw [hxp] at r1 hdx
          have hjI : (j : Int) < (m : Int) := by omega
          obtain ⟨b, hb⟩ : ∃ b, inS s (abv xp) = b := ⟨_, rfl⟩
          have hB := rbelow_any xp s W hdx hsd.out
          rw [hb] at hB
          have hBH := hidP hB
          cases b with
          | true =>
            have ea : Hid (er = (112, R)) := er1H.out (List.any_eq_true.2 ⟨x, List.mem_of_getElem? hx, by rw [hxp]; exact hb⟩)
            clear hx hxp hdx hb hB hI hrun hsl hcell fin
            go_wp2_with fail
            refine hBH.out.mono ?_
            rintro e w2 ⟨rfl, hw⟩
            replace hw := hw.symm
            subst hw
            clear hBH
            go_wp2_with fail
            go_ret
            exact ⟨by rw [ea.out]; rfl, by rw [ea.out]; exact hSame.out⟩
          | false =>
            have nx : Hid (∀ e ∈ L.take (j + 1), inS s (abv e.2) = false) := fun e he => by
              rw [take_succ_get hx] at he
              rcases List.mem_append.1 he with z | z
              · exact hI.out e z
              · have : e = x := by simpa using z
                rw [this, hxp]; exact hb
            clear hx hxp hdx hb hB hI
            go_wp2_with fail
            refine hBH.out.mono ?_
            rintro e w2 ⟨rfl, hw⟩
            replace hw := hw.symm
            subst hw
            clear hBH
            go_wp2_with fail
            exact ⟨⟨j + 1, by omega, by go_num, nx⟩, by simp [intOf]; omega⟩
        · obtain rfl : j = m := by omega
          have hjI : ¬ (j : Int) < (j : Int) := by omega
          have hjd : decide ((j : Int) < (j : Int)) = false := decide_eq_false hjI
          have ea : Hid (er = (0, { R with mt := rCut s L })) := er0H.out (by
            have := hI.out
            rw [htake.out j (Nat.le_refl _)] at this
            cases e : (L.any fun e => inS s (abv e.2)) with
            | false => rfl
            | true =>
              obtain ⟨y, hy, hy2⟩ := List.any_eq_true.1 e
              rw [this y hy] at hy2; cases hy2)
          obtain ⟨hr1, hr2⟩ := hrun.out
          obtain ⟨htv, hdv⟩ := hsl.out
          obtain ⟨hS0, hS1, hS2, hf2⟩ := hcell.out
          clear hI hget hrow htake hrun hsl hcell
          go_upto_region 11 with fail
          refine Zs.region (S := fun W' => W'.cell? ⟨rb, 2, none⟩ = some (.slice (some ⟨g, o, none⟩) j cap)) 18 (by kernel_rfl) ?_
          refine Zs.pure (i := 0) (oi := ⟨some 36, _, _, _, _, _⟩) (v := .pointer (some ⟨rb, 0, none⟩)) rfl (by kernel_rfl) (by kernel_rfl) (by kernel_rfl) (by decide) (fun _ _ _ h => h) (Or.inl ⟨by rfl, ?hy0⟩) hS0 ?_
          case hy0 => (intro w hSw; (try dsimp only at hSw); go_simp; try with_reducible rfl)
          simp only [Act.put, List.setIfInBounds_toArray, List.set_cons_zero, List.set_cons_succ]
          refine Zs.pure (i := 1) (oi := ⟨some 37, _, _, _, _, _⟩) (v := .pointer (some ⟨rb, 0, none⟩)) rfl (by kernel_rfl) (by kernel_rfl) (by kernel_rfl) (by decide) (fun _ _ _ h => h) (Or.inl ⟨by rfl, ?hy1⟩) hS0 ?_
          case hy1 => (intro w hSw; (try dsimp only at hSw); go_simp; try with_reducible rfl)
          simp only [Act.put, List.setIfInBounds_toArray, List.set_cons_zero, List.set_cons_succ]
          refine Zs.pure (i := 2) (oi := ⟨some 38, _, _, _, _, _⟩) (v := .pointer (some ⟨rb, 0, none⟩)) rfl (by kernel_rfl) (by kernel_rfl) (by kernel_rfl) (by decide) (fun _ _ _ h => h) (Or.inl ⟨by rfl, ?hy2⟩) hS0 ?_
          case hy2 => (intro w hSw; (try dsimp only at hSw); go_simp; try with_reducible rfl)
          simp only [Act.put, List.setIfInBounds_toArray, List.set_cons_zero, List.set_cons_succ]
          refine Zs.pure (i := 3) (oi := ⟨some 39, _, _, _, _, _⟩) (v := .pointer (some ⟨rb, 2, none⟩)) rfl (by kernel_rfl) (by kernel_rfl) (by kernel_rfl) (by decide) (fun _ _ _ h => h) (Or.inl ⟨by rfl, ?hy3⟩) hS0 ?_
          case hy3 => (intro w hSw; (try dsimp only at hSw); go_simp; try with_reducible rfl)
          simp only [Act.put, List.setIfInBounds_toArray, List.set_cons_zero, List.set_cons_succ]
          refine Zs.takeC (i := 4) (oi := ⟨some 40, _, _, _, _, _⟩) (v := .slice (some ⟨g, o, none⟩) j cap) 10 rfl (by kernel_rfl) (by kernel_rfl) (by kernel_rfl) (by decide) (by kernel_rfl) (by kernel_rfl) (by kernel_rfl) (fun _ _ _ h => h) (Or.inl ⟨by rfl, ?hy4⟩) hS0 ?_
          case hy4 => (intro w hSw; (try dsimp only at hSw); go_simp; try with_reducible rfl)
          simp only [Act.put, List.setIfInBounds_toArray, List.set_cons_zero, List.set_cons_succ]
          refine Zs.pure (i := 5) (oi := ⟨some 41, _, _, _, _, _⟩) (v := .int .i64 i) rfl (by kernel_rfl) (by kernel_rfl) (by kernel_rfl) (by decide) (fun _ _ _ h => h) (Or.inl ⟨by rfl, ?hy5⟩) hS0 ?_
          case hy5 => (intro w hSw; (try dsimp only at hSw); go_simp; try with_reducible rfl)
          simp only [Act.put, List.setIfInBounds_toArray, List.set_cons_zero, List.set_cons_succ]
          refine Zs.pure (i := 6) (oi := ⟨some 42, _, _, _, _, _⟩) (v := .slice pt nt ct) rfl (by kernel_rfl) (by kernel_rfl) (by kernel_rfl) (by decide) (fun _ _ _ h => h) (Or.inl ⟨by rfl, ?hy6⟩) hS0 ?_
          case hy6 => (intro w hSw; (try dsimp only at hSw); go_simp; try with_reducible rfl)
          simp only [Act.put, List.setIfInBounds_toArray, List.set_cons_zero, List.set_cons_succ]
          refine Zs.pure (i := 8) (oi := ⟨some 44, _, _, _, _, _⟩) (v := .pointer (some ⟨rb, 0, none⟩)) rfl (by kernel_rfl) (by kernel_rfl) (by kernel_rfl) (by decide) (fun _ _ _ h => h) (Or.inl ⟨by rfl, ?hy8⟩) hS0 ?_
          case hy8 => (intro w hSw; (try dsimp only at hSw); go_simp; try with_reducible rfl)
          simp only [Act.put, List.setIfInBounds_toArray, List.set_cons_zero, List.set_cons_succ]
          refine Zs.pure (i := 9) (oi := ⟨some 45, _, _, _, _, _⟩) (v := .pointer (some ⟨rb, 0, none⟩)) rfl (by kernel_rfl) (by kernel_rfl) (by kernel_rfl) (by decide) (fun _ _ _ h => h) (Or.inl ⟨by rfl, ?hy9⟩) hS0 ?_
          case hy9 => (intro w hSw; (try dsimp only at hSw); go_simp; try with_reducible rfl)
          simp only [Act.put, List.setIfInBounds_toArray, List.set_cons_zero, List.set_cons_succ]
          refine Zs.pure (i := 10) (oi := ⟨some 46, _, _, _, _, _⟩) (v := .pointer (some ⟨rb, 2, none⟩)) rfl (by kernel_rfl) (by kernel_rfl) (by kernel_rfl) (by decide) (fun _ _ _ h => h) (Or.inl ⟨by rfl, ?hy10⟩) hS0 ?_
          case hy10 => (intro w hSw; (try dsimp only at hSw); go_simp; try with_reducible rfl)
          simp only [Act.put, List.setIfInBounds_toArray, List.set_cons_zero, List.set_cons_succ]
          refine Zs.takeC (i := 11) (oi := ⟨some 47, _, _, _, _, _⟩) (v := .slice (some ⟨g, o, none⟩) j cap) 10 rfl (by kernel_rfl) (by kernel_rfl) (by kernel_rfl) (by decide) (by kernel_rfl) (by kernel_rfl) (by kernel_rfl) (fun _ _ _ h => h) (Or.inl ⟨by rfl, ?hy11⟩) hS0 ?_
          case hy11 => (intro w hSw; (try dsimp only at hSw); go_simp; try with_reducible rfl)
          simp only [Act.put, List.setIfInBounds_toArray, List.set_cons_zero, List.set_cons_succ]
          refine Zs.pure (i := 12) (oi := ⟨some 48, _, _, _, _, _⟩) (v := .int .i64 i) rfl (by kernel_rfl) (by kernel_rfl) (by kernel_rfl) (by decide) (fun _ _ _ h => h) (Or.inl ⟨by rfl, ?hy12⟩) hS0 ?_
          case hy12 => (intro w hSw; (try dsimp only at hSw); go_simp; try with_reducible rfl)
          simp only [Act.put, List.setIfInBounds_toArray, List.set_cons_zero, List.set_cons_succ]
          refine Zs.pure (i := 13) (oi := ⟨some 49, _, _, _, _, _⟩) (v := .int .i64 (i + 1)) rfl (by kernel_rfl) (by kernel_rfl) (by kernel_rfl) (by decide) (fun _ _ _ h => h) (Or.inl ⟨by rfl, ?hy13⟩) hS0 ?_
          case hy13 => (intro w hSw; (try dsimp only at hSw); go_simp; try with_reducible rfl)
          simp only [Act.put, List.setIfInBounds_toArray, List.set_cons_zero, List.set_cons_succ]
          refine Zs.pure (i := 14) (oi := ⟨some 50, _, _, _, _, _⟩) (v := .slice pd nd cd) rfl (by kernel_rfl) (by kernel_rfl) (by kernel_rfl) (by decide) (fun _ _ _ h => h) (Or.inl ⟨by rfl, ?hy14⟩) hS0 ?_
          case hy14 => (intro w hSw; (try dsimp only at hSw); go_simp; try with_reducible rfl)
          simp only [Act.put, List.setIfInBounds_toArray, List.set_cons_zero, List.set_cons_succ]
          refine Zs.one (i := 7) (oi := ⟨some 43, _, _, _, _, _⟩) (by kernel_rfl) rfl (fun K hK => ?_)
          refine step_append_run rfl (.const (.slice none 0 0)) (.tmp 42) 45 rfl _ _ _ _ rfl rfl hr1 ?_
          refine hK.out _ _ (fun _ => hS1) ?_
          clear hK K
          try simp only [Act.put, List.setIfInBounds_toArray, List.set_cons_zero, List.set_cons_succ]
          refine Zs.one (i := 15) (oi := ⟨some 51, _, _, _, _, _⟩) (by kernel_rfl) rfl (fun K hK => ?_)
          refine step_append_run rfl (.tmp 43) (.tmp 50) 45 rfl _ _ _ _ rfl rfl hr2 ?_
          refine hK.out _ _ (fun _ => hS2) ?_
          clear hK K
          try simp only [Act.put, List.setIfInBounds_toArray, List.set_cons_zero, List.set_cons_succ]
          refine Zs.pure (i := 16) (oi := ⟨some 52, _, _, _, _, _⟩) (v := .pointer (some ⟨rb, 0, none⟩)) rfl (by kernel_rfl) (by kernel_rfl) (by kernel_rfl) (by decide) (fun _ _ _ h => h) (Or.inl ⟨by rfl, ?hy16⟩) hS2 ?_
          case hy16 => (intro w hSw; (try dsimp only at hSw); go_simp; try with_reducible rfl)
          simp only [Act.put, List.setIfInBounds_toArray, List.set_cons_zero, List.set_cons_succ]
          refine Zs.pure (i := 17) (oi := ⟨some 53, _, _, _, _, _⟩) (v := .pointer (some ⟨rb, 2, none⟩)) rfl (by kernel_rfl) (by kernel_rfl) (by kernel_rfl) (by decide) (fun _ _ _ h => h) (Or.inl ⟨by rfl, ?hy17⟩) hS2 ?_
          case hy17 => (intro w hSw; (try dsimp only at hSw); go_simp; try with_reducible rfl)
          simp only [Act.put, List.setIfInBounds_toArray, List.set_cons_zero, List.set_cons_succ]
          refine Zs.one (i := 18) (oi := ⟨none, _, _, _, _, _⟩) (by kernel_rfl) rfl (fun K hK => ?_)
          go_simp
          go_wp2_with (rw [hV])
          refine hK.out _ _ (fun q => absurd q (by decide)) ?_
          clear hK K
          try simp only [Act.put, List.setIfInBounds_toArray, List.set_cons_zero, List.set_cons_succ]
          refine Zs.done (by kernel_rfl) ?_ _
          clear hS0 hS1 hS2 hr1 hr2 htv hdv hf2
          go_wp2_with (rw [hV])
          go_ret
          exact ⟨by rw [ea.out]; rfl, by rw [ea.out]; exact fin.out⟩
end Go.Proofs.YtnniahlacfflmaaDoor
