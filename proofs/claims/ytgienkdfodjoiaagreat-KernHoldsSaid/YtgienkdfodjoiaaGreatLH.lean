/- KernHolds: the walk. -/
import Derived.Test.YtgienkdfodjoiaaGreatKH
import Derived.Test.YtgienkdfodjoiaaGreatLC
import Derived.Deep.CutRange
namespace Go.Proofs.YtgienkdfodjoiaaGreat
open Go.RowKit Go.Shelf
set_option maxRecDepth 100000 in
set_option maxHeartbeats 8000000 in
theorem holds_walk (a : Option Addr) (b o n cap : Nat) (us : List Nat) (w : World) (ha : 0 < n → a = some ⟨b, o, none⟩) (hl : us.length = n) (hel : ∀ (j u : Nat), us[j]? = some u → w.cell? ⟨b, o + j, none⟩ = some (.int .u8 (u : Nat))) (hub : ∀ u ∈ us, u ≤ 255) (hml : n ≤ maxLen) :
    Calls Tryz.prog 4 #[.slice a n cap] w fun e w' => e = .returned (.bool true) ∧ Below w.heap.size w w' := by
  have hK := hidK (known_any w)
  have haH := hidK ha
  have hlH := hidK hl
  have helH := hidK hel
  have hubH := hidK hub
  have hnm : (n : Int) ≤ 9223372036854775807 := by unfold maxLen at hml; omega
  clear ha hl hel hub hml
  by_cases h120 : 120 < n
  · have h120I : (120 : Int) < (n : Int) := by omega
    go_enter Tryz.func4, Tryz.ntmps4
    go_wp2_with fail
    refine hK.out.mono ?_
    rintro e V ⟨rfl, hbV⟩
    go_wp2_with fail
    go_ret
    exact ⟨rfl, hbV⟩
  have h120I : decide ((120 : Int) < (n : Int)) = false := by simp; omega
  have hn120 := hidK (show n ≤ 120 by omega)
  clear h120
  go_enter Tryz.func4, Tryz.ntmps4
  go_wp2_with fail
  refine hK.out.mono ?_
  rintro e V ⟨rfl, hbV⟩
  have hN := hidK (new_p 30 0 V)
  have hbVH := hidK hbV
  clear hbV hK
  go_wp2_with fail
  refine hN.out.mono ?_
  rintro e W1 ⟨kb, rfl, _, k1⟩
  have k1' : Kp F0 w kb 1 (p0 30 0) W1 := k1.old hbVH.out
  obtain ⟨W2, hW2⟩ : ∃ W2, W1.alloc (.cells #[.string ⟨#[97]⟩, .string ⟨#[98]⟩, .string ⟨#[99]⟩] 87) = W2 := ⟨_, rfl⟩
  obtain ⟨D, hD⟩ : ∃ D, W1.heap.size = D := ⟨_, rfl⟩
  have k2 : Hid (Kp (FA D) w kb 1 ⟨30, 1, [], gl3 (fun _ => 0) 0, [], 0, 0⟩ W2) := by
    have hb : Below W1.heap.size W1 W2 := by rw [← hW2]; exact (Below.refl _ _).alloc (Nat.le_refl _) _
    obtain ⟨K, hk, _⟩ := k1'
    have hn : ¬ hasK K D := fun q => by have := hk.k.lt q; omega
    have hc : ∀ k, k < 3 → W2.cell? ⟨D, k, none⟩ = some (.string (nm3 k)) := fun k hk => by
      rw [← hW2]
      match k, hk with
      | 0, _ => exact cell_at hD rfl
      | 1, _ => exact cell_at hD rfl
      | 2, _ => exact cell_at hD rfl
    have h2 : Kp F0 w kb 1 (p0 30 0) W2 := Kp.below ⟨K, hk, trivial⟩ hb
    exact ⟨K, ⟨hk.k.below hb, hk.bl.trans (hb.mono hk.bl.size), hk.nw, hk.bt, hk.cc, hk.pl, hk.pw⟩, hc, by rw [← hW2]; simp; omega, hn⟩
  clear hN k1 k1' hbVH h120I
  unfold kptr
  go_wp2_with (rw [hW2])
  clear hW2 hD
  go_loopw [5] (fun v5 wr => ∃ (j : Nat) (ks : Nat → Nat), j ≤ 3 ∧ v5 = .int .i64 j ∧ Hid (Kp (FA D) w kb (1 + j) ⟨30, 1, [], gl3 ks j, [], 0, 0⟩ wr)) (fun v5 _ => 3 - (intOf v5).toNat)
  case atStart => exact ⟨0, fun _ => 0, by omega, rfl, k2⟩
  case round =>
    clear k2
    obtain ⟨j0, ks, hj, rfl, hI⟩ := hrel
    by_cases hlt : j0 < 3
    · have hltI : (j0 : Int) < 3 := by omega
      have hGr := groups_p kb wr.drew
      have hkd : Kp (FA D) w kb (1 + j0) ⟨30, 1, [], gl3 ks j0, [], 0, 0⟩ wr.drew := hI.out.below ((Below.refl _ _).drew)
      have hMk := make_p hkd (by omega) (nm3 j0) (nm3_size j0)
      have hmk := gl3_make ks
      rw [show Cg.makeE (Pl.gl ⟨30, 1, [], gl3 ks j0, [], 0, 0⟩) (nm3 j0) = 0 from (hmk 0 hlt).1] at hMk
      have hS : wr.drew.cell? ⟨D, j0, none⟩ = some (.string (nm3 j0)) := hkd.nm hlt
      unfold kptr gptr at hGr
      unfold gptr at hMk
      obtain ⟨nj, hnj⟩ : ∃ nj, nm3 j0 = nj := ⟨_, rfl⟩
      rw [hnj] at hMk hS
      have hMkH := hidK hMk
      have hnjH := hidK hnj
      clear hI hMk hkd hnj
      go_wp2_with fail
      refine Zs.region (S := fun y => y.cell? ⟨D, j0, none⟩ = some (.string nj)) 5 (by kernel_rfl) ?_
      refine Zs.pure (i := 0) (oi := ⟨some 29, _, _, _, _, _⟩) (v := ?v0) rfl (by kernel_rfl) (by kernel_rfl) (by kernel_rfl) (by decide) (fun _ _ _ h => h) (Or.inl ⟨by rfl, ?hy0⟩) hS ?_
      case hy0 => (intro w hSw; (try dsimp only at hSw); go_simp; try with_reducible rfl)
      simp only [Act.put, List.setIfInBounds_toArray, List.set_cons_zero, List.set_cons_succ]
      refine Zs.pure (i := 2) (oi := ⟨some 31, _, _, _, _, _⟩) (v := ?v2) rfl (by kernel_rfl) (by kernel_rfl) (by kernel_rfl) (by decide) (fun _ _ _ h => h) (Or.inl ⟨by rfl, ?hy2⟩) hS ?_
      case hy2 => (intro w hSw; (try dsimp only at hSw); go_simp; try with_reducible rfl)
      simp only [Act.put, List.setIfInBounds_toArray, List.set_cons_zero, List.set_cons_succ]
      refine Zs.pure (i := 3) (oi := ⟨some 32, _, _, _, _, _⟩) (v := ?v3) rfl (by kernel_rfl) (by kernel_rfl) (by kernel_rfl) (by decide) (fun _ _ _ h => h) (Or.inl ⟨by rfl, ?hy3⟩) hS ?_
      case hy3 => (intro w hSw; (try dsimp only at hSw); go_simp; try with_reducible rfl)
      simp only [Act.put, List.setIfInBounds_toArray, List.set_cons_zero, List.set_cons_succ]
      refine Zs.take (i := 4) (oi := ⟨some 33, _, _, _, _, _⟩) (v := ?v4) rfl (by kernel_rfl) (by kernel_rfl) (by kernel_rfl) (by decide) (by kernel_rfl) (by kernel_rfl) (fun _ _ _ h => h) (Or.inl ⟨by rfl, ?hy4⟩) hS ?_
      case hy4 => (intro w hSw; (try dsimp only at hSw); go_simp; try with_reducible rfl)
      simp only [Act.put, List.setIfInBounds_toArray, List.set_cons_zero, List.set_cons_succ]
      refine Zs.one (i := 1) (oi := ⟨some 30, _, _, _, _, _⟩) (by kernel_rfl) rfl (fun K hK => ?_)
      go_simp
      refine hGr.mono ?_
      rintro e w1 ⟨rfl, rfl⟩
      go_wp2_with fail
      refine hK.out _ _ (fun _ => hS) ?_
      clear hK K
      try simp only [Act.put, List.setIfInBounds_toArray, List.set_cons_zero, List.set_cons_succ]
      refine Zs.one (i := 5) (oi := ⟨some 34, _, _, _, _, _⟩) (by kernel_rfl) rfl (fun K hK => ?_)
      go_simp
      refine hMkH.out.mono ?_
      rintro e w5 ⟨rfl, kx, k5⟩
      have k5H := hidK k5
      clear k5
      go_wp2_with fail
      refine hK.out _ _ (fun q => absurd q (by decide)) ?_
      clear hK K
      try simp only [Act.put, List.setIfInBounds_toArray, List.set_cons_zero, List.set_cons_succ]
      refine Zs.one (i := 6) (oi := ⟨some 35, _, _, _, _, _⟩) (by kernel_rfl) rfl (fun K hK => ?_)
      go_simp
      refine hK.out _ _ (fun q => absurd q (by decide)) ?_
      clear hK K
      try simp only [Act.put, List.setIfInBounds_toArray, List.set_cons_zero, List.set_cons_succ]
      refine Zs.done (by kernel_rfl) ?_ _
      go_wp2_with fail
      refine ⟨⟨j0 + 1, fun i => if i = j0 then kx else ks i, by omega, by go_num, ?_⟩, by simp [intOf]; omega⟩
      have h5 := k5H.out
      rw [if_pos trivial, ← hnjH.out] at h5
      rw [(hmk kx hlt).2] at h5
      exact h5
    · have hst : Hid (Ho w kb D (10 + 2 * 0) ⟨30, 1, [], gl3 ks 3, [], 0, 0⟩ wr) := by
        have hh := gl3_end ks
        have hI' := hI.out
        have e3 : j0 = 3 := by omega
        subst e3
        exact ⟨⟨fun q hq => (by cases hq), fun x hx i hi => (by have h3 := hh.2 x hx; rw [h3] at hi; cases hi)⟩, hh.1, hI'.mono (by omega)⟩
      have hltI : decide ((j0 : Int) < 3) = false := by simp; omega
      clear hI hlt hj
      go_wp2_with fail
      go_loopw [6, 7, 8, 9, 10, 11, 12, 13, 14, 15, 16, 17] (fun v6 v7 _ _ _ _ _ _ _ _ _ _ wr => ∃ (j L : Nat) (p : Pl), j ≤ n ∧ v7 = .int .i64 j ∧ v6 = .int .i64 L ∧ Hid (p.last = L ∧ Ho w kb D (10 + 2 * j) p wr)) (fun _ v7 _ _ _ _ _ _ _ _ _ _ _ => n - (intOf v7).toNat)
      case atStart => exact ⟨0, 1, _, by omega, rfl, rfl, rfl, hst.out⟩
      case round =>
        clear hst
        obtain ⟨j, L, p, hj, rfl, rfl, hI⟩ := hrel
        by_cases hlt2 : j < n
        · have hltI2 : (j : Int) < (n : Int) := by omega
          obtain ⟨u, hu⟩ : ∃ u, us[j]? = some u := ⟨_, List.getElem?_eq_getElem (by rw [hlH.out]; exact hlt2)⟩
          have hub := hubH.out u (List.mem_of_getElem? hu)
          have hae := haH.out (by omega)
          subst hae
          have hcu : Hid (∀ (wx : World), Below w.heap.size w wx → wx.cell? ⟨b, o + j, none⟩ = some (.int .u8 (u : Nat))) := fun wx bl => (Mv.below (E := fun _ => False) bl).cell (a := ⟨b, o + j, none⟩) (fun h => h) (helH.out j u hu)
          have hn1 := hn120.out
          have hLa := hI.out.2.la
          have hLb : 1 ≤ L ∧ L ≤ 10 + 2 * j := by have := hI.out.1; omega
          have cu := hcu.out wr hI.out.2.k.bl
          obtain ⟨d, hd⟩ : ∃ d, u / 8 = d := ⟨_, rfl⟩
          obtain ⟨r, hr⟩ : ∃ r, u % 8 = r := ⟨_, rfl⟩
          obtain ⟨q, hq⟩ : ∃ q, d % (L + 1) = q := ⟨_, rfl⟩
          obtain ⟨k3, hk3⟩ : ∃ k3, d % 3 = k3 := ⟨_, rfl⟩
          have hqL : q ≤ L := by have := Nat.mod_lt d (show 0 < L + 1 by omega); omega
          have hr8 : r < 8 := by omega
          have hk33 : k3 < 3 := by omega
          have hdI : ((u : Nat) : Int) / 8 = (d : Int) := by omega
          have hwd : IntKind.u8.wrap (d : Int) = (d : Int) := by rw [IntKind.wrap_u8]; omega
          have hd32 : d ≤ 31 := by omega
          have hqt : ((d : Nat) : Int).tmod ((L : Int) + 1) = (q : Int) := by rw [Int.tmod_eq_emod_of_nonneg (by omega), ← hq]; push_cast; rfl
          have hrt : ((u : Nat) : Int).tmod 8 = (r : Int) := by rw [Int.tmod_eq_emod_of_nonneg (by omega)]; omega
          have hkt : ((d : Nat) : Int).tmod 3 = (k3 : Int) := by rw [Int.tmod_eq_emod_of_nonneg (by omega)]; omega
          have hIH := hidK hI.out
          clear hu hub hd hr hq hk3 hI hLa
          go_upto_region 17 with fail
          go_cut [9] from 36 to 163 (fun v9 wx => v9 = .int .i64 0 ∧ wx = wr)
          case first =>
            go_wp2_with fail
            go_meet
            exact ⟨rfl, rfl⟩
          case rest =>
            obtain ⟨rfl, rfl⟩ := hcut
            rename_i K1 aK1
            refine aK1 _ _ ?_
            clear aK1 K1
            go_step
            go_cut [9] from 36 to 163 (fun v9 wx => ∃ nn : Int, v9 = .int .i64 nn ∧ Hid (Hq w kb D (10 + 2 * j + 2) p nn wx))
            case first =>
              have hho := hIH.out.2
              have c3 := hho.k.nm hk33
              have hk3I : (k3 : Int) < 3 := by omega
              have hsz := hidK (nm3_size k3)
              obtain ⟨nk, hnk⟩ : ∃ nk, nm3 k3 = nk := ⟨_, rfl⟩
              rw [hnk] at c3 hsz
              clear hnk
              have hcL : 10 + 2 * j ≤ 1000 := by omega
              have hqI : (q : Int) ≤ 250 := by omega
              by_cases hr1 : r ≤ 1
              · as_aux_lemma =>
                have hC := ho_spawn hho hcL nk ⟨#[99]⟩ hsz.out
                unfold kptr at hC
                clear hho
                rcases (by omega : r = 0 ∨ r = 1) with rfl | rfl
                all_goals
                  go_wp2_with fail
                  refine hC.mono ?_
                  rintro e Wy ⟨nn, ee, rfl, hQ⟩
                  have hQH := hidK hQ
                  clear hC hQ
                  go_wp2_with fail
                  go_meet
                  exact ⟨nn, rfl, hQH⟩
              by_cases hr2 : r ≤ 3
              · as_aux_lemma =>
                have hC := ho_fork hho hcL ((q : Int) + 1) (by omega) (by omega)
                unfold kptr at hC
                clear hho
                rcases (by omega : r = 2 ∨ r = 3) with rfl | rfl
                all_goals
                  go_wp2_with fail
                  refine hC.mono ?_
                  rintro e Wy ⟨nn, ee, rfl, hQ⟩
                  have hQH := hidK hQ
                  clear hC hQ
                  go_wp2_with fail
                  go_meet
                  exact ⟨nn, rfl, hQH⟩
              by_cases hr3 : r = 4
              · as_aux_lemma =>
                subst hr3
                have hC := ho_exit hho hcL ((q : Int) + 1) 0 (by omega) (by omega)
                unfold kptr at hC
                clear hho
                go_wp2_with fail
                refine hC.mono ?_
                rintro e Wy ⟨ee, rfl, hQ⟩
                have hQH := hidK hQ
                clear hC hQ
                go_wp2_with fail
                go_meet
                exact ⟨0, rfl, hQH⟩
              by_cases hr4 : r = 5
              · as_aux_lemma =>
                subst hr4
                have hC := ho_killg hho hcL nk hsz.out 9
                unfold kptr at hC
                clear hho
                go_wp2_with fail
                refine hC.mono ?_
                rintro e Wy ⟨ee, rfl, hQ⟩
                have hQH := hidK hQ
                clear hC hQ
                go_wp2_with fail
                go_meet
                exact ⟨0, rfl, hQH⟩
              by_cases hr5 : r = 6
              · as_aux_lemma =>
                subst hr5
                have hC := ho_die hho hcL ((q : Int) + 1) (by omega) (by omega)
                unfold kptr at hC
                clear hho
                go_wp2_with fail
                refine hC.mono ?_
                rintro e Wy ⟨ee, rfl, hQ⟩
                have hQH := hidK hQ
                clear hC hQ
                go_wp2_with fail
                go_meet
                exact ⟨0, rfl, hQH⟩
              · as_aux_lemma =>
                obtain rfl : r = 7 := by omega
                have hC := ho_reap hho hcL
                unfold kptr at hC
                clear hho
                go_wp2_with fail
                refine hC.mono ?_
                rintro e Wy ⟨_, _, _, _, _, _, _, rfl, hQ⟩
                have hQH := hidK hQ
                clear hC hQ
                go_wp2_with fail
                go_meet
                exact ⟨0, rfl, hQH⟩
            case rest =>
              obtain ⟨nn, rfl, hQ⟩ := hcut
              obtain ⟨p', hmx, hho⟩ := hQ.out
              obtain ⟨L2, hL2⟩ : ∃ L2 : Nat, p'.last = (L2 : Int) := ⟨p'.last.toNat, by have := hho.la.1; omega⟩
              have hL2a := hho.la
              rw [hIH.out.1, hL2] at hmx
              rw [hL2] at hL2a
              have hL2b : 1 ≤ L2 ∧ L2 ≤ 10 + 2 * j + 2 := by omega
              have hends := hho.ends
              rw [hL2] at hends
              have hoH := hidK hho
              have hL2H := hidK hL2
              obtain ⟨N3, hN3⟩ : ∃ N3, sumN p'.gl 3 = N3 := ⟨_, rfl⟩
              rw [hN3] at hends
              have hN3H := hidK hN3
              have hendsH := hidK hends
              clear hQ hIH hho hL2 hL2a hends hN3 hqt hrt hkt hdI hwd cu hr8 hk33 hd32 hqL hLb
              rename_i K1 aK1
              refine aK1 _ _ ?_
              clear aK1 K1
              go_wp2_with fail
              clear hmx
              go_loopw [10, 11, 12, 13, 14, 15] (fun v10 v11 _ _ _ _ wr => ∃ (m cm : Nat), 2 ≤ m ∧ m ≤ L2 + 1 ∧ v11 = .int .i64 (m : Nat) ∧ v10 = .int .i64 (cm : Nat) ∧ Hid (cnt3 ((m : Int) - 1) p'.gl = cm ∧ Ho w kb D (10 + 2 * j + 2) p' wr)) (fun _ v11 _ _ _ _ _ => L2 + 1 - (intOf v11).toNat)
              case atStart => exact ⟨2, 0, by omega, by omega, rfl, rfl, hendsH.out.1, hoH.out⟩
              case round =>
                obtain ⟨m, cm, hm1, hm2, rfl, rfl, hI3⟩ := hrel
                have hmb : m ≤ 300 := by omega
                by_cases hlt3 : m ≤ L2
                · as_aux_lemma =>
                  have hltI3 : (m : Int) ≤ (L2 : Int) := by omega
                  have hcm : cm ≤ 3000 := by have := hI3.out.2.cnt_le ((m : Int) - 1); rw [hI3.out.1] at this; omega
                  have hk2 : 2 ≤ (m : Int) := by omega
                  have hkb : (m : Int) ≤ 1000 := by omega
                  have hP := procs_p kb wr
                  unfold kptr at hP
                  have htl := hI3.out.2.i.tells hI3.out.2.k.pw.pw.srt hI3.out.2.k.gw hk2
                  have hst := cnt3_step hI3.out.2.t hI3.out.2.k.gw ((m : Int) - 1)
                  rw [show (m : Int) - 1 + 1 = (m : Int) by omega, hI3.out.1] at hst
                  have hGt : Calls Tryz.prog 48 #[.pointer (some ⟨kb, 0, none⟩), .int .i64 (m : Int)] wr fun e W' => e = .returned (.tuple #[Pc.prV (Pc.getP p'.l (m : Int)), .bool (Pc.thereP p'.l (m : Int))]) ∧ Ho w kb D (10 + 2 * j + 2) p' W' := (get_p hI3.out.2.k (m : Int) (by omega) (by omega)).mono (fun _ _ q => ⟨q.1, hI3.out.2.i, hI3.out.2.t, q.2⟩)
                  have hOf : Hid (∀ W, Ho w kb D (10 + 2 * j + 2) p' W → Calls Tryz.prog 49 #[.pointer (some ⟨kb, 3, none⟩), .int .i64 (m : Int)] W fun e W' => e = .returned (.tuple #[.string (Cg.ofN p'.gl (m : Int)), .bool (Cg.hm p'.gl (m : Int)).isSome]) ∧ Ho w kb D (10 + 2 * j + 2) p' W' ∧ Below W.heap.size W W') := fun W h => ho_of h (m : Int) (by omega) (by omega)
                  obtain ⟨q, hq⟩ : ∃ q, Pc.getP p'.l (m : Int) = q := ⟨_, rfl⟩
                  obtain ⟨th, hth⟩ : ∃ th, Pc.thereP p'.l (m : Int) = th := ⟨_, rfl⟩
                  obtain ⟨ib, hib⟩ : ∃ ib, (Cg.hm p'.gl (m : Int)).isSome = ib := ⟨_, rfl⟩
                  obtain ⟨on, hon⟩ : ∃ on, Cg.ofN p'.gl (m : Int) = on := ⟨_, rfl⟩
                  rw [hq, hth] at hGt
                  rw [hib, hon] at hOf
                  rw [hq, hth, hib, hon] at htl
                  rw [hib] at hst
                  obtain ⟨c2, hc2⟩ : ∃ c2, cnt3 (m : Int) p'.gl = c2 := ⟨_, rfl⟩
                  rw [hc2] at hst
                  have hc2H : Hid (cnt3 (((m + 1 : Nat) : Int) - 1) p'.gl = c2) := by show _ = _; rw [show ((m + 1 : Nat) : Int) - 1 = (m : Int) by omega]; exact hc2
                  obtain ⟨z0, z1, z2, z3, z4, z5, z6, z7⟩ := q
                  simp only [Pc.prV] at hGt
                  simp only at htl
                  clear hI3 hq hth hib hon hc2
                  go_wp2_with fail
                  refine hP.mono ?_
                  rintro e wr' ⟨rfl, rfl⟩
                  clear hP
                  go_wp2_with fail
                  refine hGt.mono ?_
                  rintro e W3 ⟨rfl, h3⟩
                  obtain ⟨W4, hW4⟩ : ∃ W4, W3.alloc (.cells #[.int .i64 z0, .int .i64 z1, .string z2, .bool z3, .int .i64 z4, .string z5] 53) = W4 := ⟨_, rfl⟩
                  obtain ⟨B, hB⟩ : ∃ B, W3.heap.size = B := ⟨_, rfl⟩
                  have b4 : Below W3.heap.size W3 W4 := by rw [← hW4]; exact (Below.refl _ _).alloc (Nat.le_refl _) _
                  have y2 : Hid (W4.cell? ⟨B, 2, none⟩ = some (.string z2)) := by rw [← hW4]; exact cell_at hB rfl
                  have y3 : Hid (W4.cell? ⟨B, 3, none⟩ = some (.bool z3)) := by rw [← hW4]; exact cell_at hB rfl
                  have h4 := hidK (h3.below b4)
                  have hGr := groups_p kb W4
                  unfold kptr gptr at hGr
                  clear hGt h3 b4
                  go_wp2_with (first | rw [hW4] | rw [hB])
                  refine hGr.mono ?_
                  rintro e W4' ⟨rfl, rfl⟩
                  have hO := hOf.out _ h4.out
                  clear hGr hOf
                  go_wp2_with fail
                  refine hO.mono ?_
                  rintro e W5 ⟨rfl, h5, b5⟩
                  have x2 := (Mv.below (E := fun _ => False) b5).cell (a := ⟨B, 2, none⟩) (fun h => h) y2.out
                  have x3 := (Mv.below (E := fun _ => False) b5).cell (a := ⟨B, 3, none⟩) (fun h => h) y3.out
                  have h5H := hidK h5
                  clear hO h5 b5 y2 y3 h4 hW4
                  rcases htl with ⟨rfl, rfl, rfl, rfl⟩ | ⟨rfl, rfl⟩ | ⟨rfl, rfl, rfl⟩
                  · simp only [if_true] at hst
                    subst hst
                    go_wp2_with fail
                    exact ⟨⟨m + 1, cm + 1, by omega, by omega, by go_num, by go_num, hc2H.out, h5H.out⟩, by simp [intOf]; omega⟩
                  · simp only [Bool.false_eq_true, if_false, Nat.add_zero] at hst
                    subst hst
                    go_wp2_with fail
                    exact ⟨⟨m + 1, c2, by omega, by omega, by go_num, rfl, hc2H.out, h5H.out⟩, by simp [intOf]; omega⟩
                  · simp only [Bool.false_eq_true, if_false, Nat.add_zero] at hst
                    subst hst
                    go_wp2_with fail
                    exact ⟨⟨m + 1, c2, by omega, by omega, by go_num, rfl, hc2H.out, h5H.out⟩, by simp [intOf]; omega⟩
                · have hltI3 : decide ((m : Int) ≤ (L2 : Int)) = false := by simp; omega
                  have hcm : cm = N3 := hI3.out.1.symm.trans (by rw [show (m : Int) - 1 = (L2 : Int) by omega]; exact hendsH.out.2)
                  subst hcm
                  have h6 : Hid (Ho w kb D (10 + 2 * j + 2) p' wr) := hI3.out.2
                  have hlt3a : (L2 : Int) < (m : Int) := by omega
                  have hlt3b : ¬ (m : Int) ≤ (L2 : Int) := by omega
                  clear hI3 hm1 hm2 hmb
                  go_wp2_with fail
                  clear hlt3 hlt3a hlt3b hltI3
                  go_loopw [16, 17] (fun v16 v17 wr => ∃ (i si : Nat), i ≤ 3 ∧ v17 = .int .i64 (i : Nat) ∧ v16 = .int .i64 (si : Nat) ∧ Hid (sumN p'.gl i = si ∧ Ho w kb D (10 + 2 * j + 2) p' wr)) (fun _ v17 _ => 3 - (intOf v17).toNat)
                  case atStart => exact ⟨0, 0, by omega, rfl, rfl, rfl, h6.out⟩
                  case round =>
                    obtain ⟨i, si, hi3, rfl, rfl, hI4⟩ := hrel
                    by_cases hlt4 : i < 3
                    · as_aux_lemma =>
                      have hltI4 : (i : Int) < 3 := by omega
                      have hGr := groups_p kb wr.drew
                      have hod : Ho w kb D (10 + 2 * j + 2) p' wr.drew := hI4.out.2.below ((Below.refl _ _).drew)
                      have hMm := members_p hod.k (by omega) (nm3 i) (nm3_size i)
                      have hS : wr.drew.cell? ⟨D, i, none⟩ = some (.string (nm3 i)) := hod.k.nm hlt4
                      have hfew := hod.few (nm3 i)
                      have hsum := hod.sums i
                      have hsib : si ≤ 3000 := by rw [hI4.out.1] at hsum; have : i * (10 + 2 * j + 2) ≤ 3 * (10 + 2 * j + 2) := Nat.mul_le_mul_right _ (by omega); omega
                      unfold kptr gptr at hGr
                      unfold gptr at hMm
                      obtain ⟨nj, hnj⟩ : ∃ nj, nm3 i = nj := ⟨_, rfl⟩
                      obtain ⟨ln, hln⟩ : ∃ ln, (Cg.mOf p'.gl (nm3 i)).length = ln := ⟨_, rfl⟩
                      rw [hln] at hfew
                      have hlnb : ln ≤ 1000 := by omega
                      have hsn : Hid (sumN p'.gl (i + 1) = si + ln) := by show sumN p'.gl i + _ = _; rw [hI4.out.1, hln]
                      have hwr : IntKind.i64.wrap ((si : Int) + (ln : Int)) = ((si + ln : Nat) : Int) := by rw [i64w _ (by omega) (by omega)]; omega
                      have hM2 : Hid (Calls Tryz.prog 44 #[.pointer (some ⟨kb, 3, none⟩), .string nj] wr.drew fun e W' => ∃ q cc, e = .returned (.slice q ln cc) ∧ Ho w kb D (10 + 2 * j + 2) p' W') := by
                        rw [← hnj]
                        refine hMm.mono ?_
                        rintro e W' ⟨v, rfl, ⟨q, cc, rfl, _⟩, k2, _⟩
                        exact ⟨q, cc, by rw [hln], hod.i, hod.t, k2⟩
                      rw [hnj] at hS
                      clear hI4 hMm hod hsum hfew hln hnj
                      go_wp2_with fail
                      refine Zs.region (S := fun y => y.cell? ⟨D, i, none⟩ = some (.string nj)) 6 (by kernel_rfl) ?_
                      refine Zs.pure (i := 0) (oi := ⟨some 152, _, _, _, _, _⟩) (v := ?v0s) rfl (by kernel_rfl) (by kernel_rfl) (by kernel_rfl) (by decide) (fun _ _ _ h => h) (Or.inl ⟨by rfl, ?hy0s⟩) hS ?_
                      case hy0s => (intro w hSw; (try dsimp only at hSw); go_simp; try with_reducible rfl)
                      simp only [Act.put, List.setIfInBounds_toArray, List.set_cons_zero, List.set_cons_succ]
                      refine Zs.pure (i := 1) (oi := ⟨some 153, _, _, _, _, _⟩) (v := ?v1s) rfl (by kernel_rfl) (by kernel_rfl) (by kernel_rfl) (by decide) (fun _ _ _ h => h) (Or.inl ⟨by rfl, ?hy1s⟩) hS ?_
                      case hy1s => (intro w hSw; (try dsimp only at hSw); go_simp; try with_reducible rfl)
                      simp only [Act.put, List.setIfInBounds_toArray, List.set_cons_zero, List.set_cons_succ]
                      refine Zs.pure (i := 3) (oi := ⟨some 155, _, _, _, _, _⟩) (v := ?v3s) rfl (by kernel_rfl) (by kernel_rfl) (by kernel_rfl) (by decide) (fun _ _ _ h => h) (Or.inl ⟨by rfl, ?hy3s⟩) hS ?_
                      case hy3s => (intro w hSw; (try dsimp only at hSw); go_simp; try with_reducible rfl)
                      simp only [Act.put, List.setIfInBounds_toArray, List.set_cons_zero, List.set_cons_succ]
                      refine Zs.pure (i := 4) (oi := ⟨some 156, _, _, _, _, _⟩) (v := ?v4s) rfl (by kernel_rfl) (by kernel_rfl) (by kernel_rfl) (by decide) (fun _ _ _ h => h) (Or.inl ⟨by rfl, ?hy4s⟩) hS ?_
                      case hy4s => (intro w hSw; (try dsimp only at hSw); go_simp; try with_reducible rfl)
                      simp only [Act.put, List.setIfInBounds_toArray, List.set_cons_zero, List.set_cons_succ]
                      refine Zs.take (i := 5) (oi := ⟨some 157, _, _, _, _, _⟩) (v := ?v5s) rfl (by kernel_rfl) (by kernel_rfl) (by kernel_rfl) (by decide) (by kernel_rfl) (by kernel_rfl) (fun _ _ _ h => h) (Or.inl ⟨by rfl, ?hy5s⟩) hS ?_
                      case hy5s => (intro w hSw; (try dsimp only at hSw); go_simp; try with_reducible rfl)
                      simp only [Act.put, List.setIfInBounds_toArray, List.set_cons_zero, List.set_cons_succ]
                      refine Zs.one (i := 2) (oi := ⟨some 154, _, _, _, _, _⟩) (by kernel_rfl) rfl (fun K hK => ?_)
                      go_simp
                      refine hGr.mono ?_
                      rintro e w1 ⟨rfl, rfl⟩
                      go_wp2_with fail
                      refine hK.out _ _ (fun _ => hS) ?_
                      clear hK K
                      try simp only [Act.put, List.setIfInBounds_toArray, List.set_cons_zero, List.set_cons_succ]
                      refine Zs.one (i := 6) (oi := ⟨some 158, _, _, _, _, _⟩) (by kernel_rfl) rfl (fun K hK => ?_)
                      go_simp
                      refine hM2.out.mono ?_
                      rintro e w7 ⟨q7, cc7, rfl, h7⟩
                      have h7H := hidK h7
                      clear h7
                      go_wp2_with fail
                      refine hK.out _ _ (fun q => absurd q (by decide)) ?_
                      clear hK K
                      try simp only [Act.put, List.setIfInBounds_toArray, List.set_cons_zero, List.set_cons_succ]
                      refine Zs.one (i := 7) (oi := ⟨some 159, _, _, _, _, _⟩) (by kernel_rfl) rfl (fun K hK => ?_)
                      go_simp
                      refine hK.out _ _ (fun q => absurd q (by decide)) ?_
                      clear hK K
                      try simp only [Act.put, List.setIfInBounds_toArray, List.set_cons_zero, List.set_cons_succ]
                      refine Zs.one (i := 8) (oi := ⟨some 160, _, _, _, _, _⟩) (by kernel_rfl) rfl (fun K hK => ?_)
                      go_simp
                      refine hK.out _ _ (fun q => absurd q (by decide)) ?_
                      clear hK K
                      try simp only [Act.put, List.setIfInBounds_toArray, List.set_cons_zero, List.set_cons_succ]
                      refine Zs.one (i := 9) (oi := ⟨some 16, _, _, _, _, _⟩) (by kernel_rfl) rfl (fun K hK => ?_)
                      go_simp
                      refine hK.out _ _ (fun q => absurd q (by decide)) ?_
                      clear hK K
                      try simp only [Act.put, List.setIfInBounds_toArray, List.set_cons_zero, List.set_cons_succ]
                      refine Zs.done (by kernel_rfl) ?_ _
                      go_wp2_with fail
                      exact ⟨⟨i + 1, si + ln, by omega, by go_num, by go_num, hsn.out, h7H.out⟩, by simp [intOf]; omega⟩
                    · have hltI4 : decide ((i : Int) < 3) = false := by simp; omega
                      have hsi : cm = si := by
                        have h7 := hI4.out.1
                        rw [show i = 3 by omega] at h7
                        exact hN3H.out.symm.trans h7
                      subst hsi
                      have fin : Hid (p'.last = (L2 : Int) ∧ Ho w kb D (10 + 2 * (j + 1)) p' wr) := ⟨hL2H.out, hI4.out.2⟩
                      clear hI4 hlt4 hi3
                      go_wp2_with fail
                      go_roundw
                      case rel => exact ⟨j + 1, L2, p', by omega, by go_num, rfl, fin.out⟩
                      case measure => simp [intOf]; omega
        · obtain rfl : j = n := by omega
          have hltI2 : decide ((j : Int) < (j : Int)) = false := by simp
          have fin := hidK hI.out.2.k.bl
          clear hI
          go_wp2_with fail
          go_ret
          exact ⟨rfl, fin.out⟩
end Go.Proofs.YtgienkdfodjoiaaGreat
