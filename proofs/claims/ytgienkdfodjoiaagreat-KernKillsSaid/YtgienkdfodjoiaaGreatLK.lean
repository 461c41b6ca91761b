/- KernKills: the walk. -/
import Derived.Test.YtgienkdfodjoiaaGreatKM
namespace Go.Proofs.YtgienkdfodjoiaaGreat
open Go.RowKit Go.Shelf
set_option maxRecDepth 100000 in
set_option maxHeartbeats 4000000 in
theorem kills_walk (n1 n2 : Nat) (w : World) (h1 : n1 ≤ 255) (h2 : n2 ≤ 255) :
    Calls Tryz.prog 5 #[.int .u8 n1, .int .u8 n2] w fun e w' => e = .returned (.bool true) ∧ Below w.heap.size w w' := by
  have hK := hidK (known_any w)
  obtain ⟨a, ha⟩ : ∃ a, n1 % 10 = a := ⟨_, rfl⟩
  obtain ⟨b, hb⟩ : ∃ b, n2 % 10 = b := ⟨_, rfl⟩
  have ha6 : a < 10 := by omega
  have hb6 : b < 10 := by omega
  have hma : ((n1 : Nat) : Int).tmod 10 = (a : Int) := by rw [Int.tmod_eq_emod_of_nonneg (by omega)]; omega
  have hmb : ((n2 : Nat) : Int).tmod 10 = (b : Int) := by rw [Int.tmod_eq_emod_of_nonneg (by omega)]; omega
  clear ha hb h1 h2
  go_enter Tryz.func5, Tryz.ntmps5
  go_wp2_with fail
  refine hK.out.mono ?_
  rintro e V ⟨rfl, hbV⟩
  have hN := hidK (new_p 60 0 V)
  have hbVH := hidK hbV
  clear hbV hK
  go_wp2_with fail
  refine hN.out.mono ?_
  rintro e W1 ⟨kb, rfl, _, k1⟩
  have kk1 : Hid (Kp F0 w kb 1 ⟨60, 1, [], [], [], 0, 0⟩ W1) := k1.old hbVH.out
  have hG := groups_p kb W1
  unfold kptr at hG ⊢
  clear hN k1 hbVH
  go_wp2_with fail
  refine hG.mono ?_
  rintro e W1' ⟨rfl, rfl⟩
  have hM := make_p kk1.out (by decide) gB (by decide)
  rw [show Cg.makeE (Pl.gl ⟨60, 1, [], [], [], 0, 0⟩) gB = 0 by kernel_rfl] at hM
  unfold gptr at hM ⊢
  simp only [gB] at hM
  clear hG kk1
  go_wp2_with fail
  refine hM.mono ?_
  rintro e W2 ⟨rfl, b1, k2⟩
  rw [if_pos trivial] at k2
  have k2H : Hid (Kp F0 w kb 2 ⟨60, 1, [], [⟨gB, b1, []⟩], [], 0, 0⟩ W2) := k2
  have hG := groups_p kb W2
  unfold kptr at hG
  clear hM k2
  go_wp2_with fail
  refine hG.mono ?_
  rintro e W2' ⟨rfl, rfl⟩
  have hM := make_p k2H.out (by decide) hB (by decide)
  rw [show Cg.makeE (Pl.gl ⟨60, 1, [], [⟨gB, b1, []⟩], [], 0, 0⟩) hB = 0 by kernel_rfl] at hM
  unfold gptr at hM ⊢
  simp only [hB] at hM
  clear hG k2H
  go_wp2_with fail
  refine hM.mono ?_
  rintro e W3 ⟨rfl, b2, k3⟩
  rw [if_pos trivial] at k3
  rw [show Cg.insG ⟨⟨#[104]⟩, b2, []⟩ [⟨gB, b1, []⟩] = [⟨gB, b1, []⟩, ⟨hB, b2, []⟩] by kernel_rfl] at k3
  have k3' : Kp F0 w kb 3 ⟨60, 1, [], [⟨gB, b1, []⟩, ⟨hB, b2, []⟩], [], 0, 0⟩ W3 := k3
  have hS := spawn_p k3' (by decide) gB cB (by decide)
  rw [show spQ ⟨60, 1, [], [⟨gB, b1, []⟩, ⟨hB, b2, []⟩], [], 0, 0⟩ gB cB = ⟨2, 0, 2, [⟨2, 1, gB, false, 0, cB, false, false⟩], [⟨gB, b1, [2]⟩, ⟨hB, b2, []⟩], []⟩ by kernel_rfl] at hS
  have hS2 : Calls Tryz.prog 13 #[.pointer (some ⟨kb, 0, none⟩), .string ⟨#[103]⟩, .string ⟨#[99]⟩] W3 fun e W' => e = .returned (.tuple #[.int .i64 2, .int .i64 0]) ∧ Kp F0 w kb 5 ⟨60, 2, [⟨2, 1, gB, false, 0, cB, false, false⟩], [⟨gB, b1, [2]⟩, ⟨hB, b2, []⟩], [], 0, 0⟩ W' := hS
  clear hM k3 k3' hS
  go_wp2_with fail
  refine hS2.mono ?_
  rintro e W4 ⟨rfl, k4⟩
  have hS := spawn_p k4 (by decide) hB cB (by decide)
  rw [show spQ ⟨60, 2, [⟨2, 1, gB, false, 0, cB, false, false⟩], [⟨gB, b1, [2]⟩, ⟨hB, b2, []⟩], [], 0, 0⟩ hB cB = ⟨3, 0, 3, [⟨2, 1, gB, false, 0, cB, false, false⟩, ⟨3, 1, hB, false, 0, cB, false, false⟩], two b1 b2 [2], []⟩ by kernel_rfl] at hS
  have hS2' : Calls Tryz.prog 13 #[.pointer (some ⟨kb, 0, none⟩), .string ⟨#[104]⟩, .string ⟨#[99]⟩] W4 fun e W' => e = .returned (.tuple #[.int .i64 3, .int .i64 0]) ∧ Kp F0 w kb 7 ⟨60, 3, [⟨2, 1, gB, false, 0, cB, false, false⟩, ⟨3, 1, hB, false, 0, cB, false, false⟩], two b1 b2 [2], [], 0, 0⟩ W' := hS
  clear hS2 k4 hS
  go_wp2_with fail
  refine hS2'.mono ?_
  rintro e W5 ⟨rfl, k5⟩
  have md5 : Md ⟨60, 3, [⟨2, 1, gB, false, 0, cB, false, false⟩, ⟨3, 1, hB, false, 0, cB, false, false⟩], two b1 b2 [2], [], 0, 0⟩ b1 b2 [2] 2 :=
    ⟨rfl, rfl, rfl, by decide, rfl, rfl, fun q hq => (by simp at hq; rcases hq with rfl | rfl <;> rfl), fun q hq => (by simp at hq; rcases hq with rfl | rfl <;> rfl), fun x hx => (by simp at hx; subst hx; exact ⟨rfl, by decide⟩)⟩
  have st5 : Hid ((2 : Int) ∈ [(2 : Int)] ∧ Md _ b1 b2 [2] (2 + 0) ∧ Kp F0 w kb (7 + 2 * 0) _ W5) := ⟨by simp, md5, k5⟩
  clear hS2' k5 md5
  go_wp2_with fail
  go_loopw [7, 10] (fun _ v10 wr => ∃ (j : Nat) (G : List Int) (p : Pl), j ≤ a ∧ v10 = .int .i64 j ∧ Hid ((2 : Int) ∈ G ∧ Md p b1 b2 G (2 + j) ∧ Kp F0 w kb (7 + 2 * j) p wr)) (fun _ v10 _ => a - (intOf v10).toNat)
  case atStart => exact ⟨0, [2], _, by omega, rfl, st5⟩
  case round =>
    clear st5
    obtain ⟨j, G, p, hj, rfl, hI⟩ := hrel
    by_cases hlt : j < a
    · have hltI : (j : Int) < (a : Int) := by omega
      have hF := fork_p hI.out.2.2 (by omega) 2 (by decide) (by decide)
      obtain ⟨e0, m0⟩ := hI.out.2.1.fork hI.out.2.2.pw.pw (by omega) hI.out.1
      rw [e0] at hF
      unfold kptr at hF
      obtain ⟨pn, hpn⟩ : ∃ pn, (fkQ p 2).n = pn := ⟨_, rfl⟩
      rw [hpn] at hF
      have fin : Hid (∀ W, Kp F0 w kb (7 + 2 * j + 2) (p.with (fkQ p 2)) W → (2 : Int) ∈ Cg.insI (((2 + j : Nat) : Int) + 2) G ∧ Md (p.with (fkQ p 2)) b1 b2 (Cg.insI (((2 + j : Nat) : Int) + 2) G) (2 + (j + 1)) ∧ Kp F0 w kb (7 + 2 * (j + 1)) (p.with (fkQ p 2)) W) := fun W hk => ⟨Cg.mem_insI.2 (.inr hI.out.1), m0, hk⟩
      clear e0 m0 hpn hI
      go_wp2_with fail
      refine hF.mono ?_
      rintro e W6 ⟨rfl, k6⟩
      have fin6 := hidK (fin.out W6 k6)
      clear hF k6 fin
      go_wp2_with fail
      exact ⟨⟨j + 1, _, _, by omega, by go_num, fin6⟩, by simp [intOf]; omega⟩
    · obtain rfl : j = a := by omega
      have hltI : decide ((j : Int) < (j : Int)) = false := by simp
      have hG := groups_p kb wr
      unfold kptr at hG
      go_wp2_with fail
      refine hG.mono ?_
      rintro e wr' ⟨rfl, rfl⟩
      have hMm := members_p hI.out.2.2 (by omega) gB (by decide)
      have hmo : Cg.mOf p.gl gB = G := by rw [hI.out.2.1.gl, two_mOf]
      rw [hmo] at hMm
      unfold gptr at hMm ⊢
      simp only [gB] at hMm
      clear hG
      go_wp2_with fail
      refine hMm.mono ?_
      rintro e W6 ⟨v, rfl, hir, _, hk6⟩
      have hne : G ≠ [] := List.ne_nil_of_mem hI.out.1
      have k6 := hk6 hne
      obtain ⟨pp, cc, rfl, _⟩ := id hir
      obtain ⟨m, hm⟩ : ∃ m, G.length = m := ⟨_, rfl⟩
      have hm0 : 0 < m := by rw [← hm]; exact List.length_pos_iff.2 hne
      have hmb2 : m ≤ 1000000 := by
        have h := k6.gw
        have hx := k6.pw
        have : (⟨gB, b1, G⟩ : Cg.G) ∈ p.gl := by rw [hI.out.2.1.gl]; simp [two]
        obtain ⟨K, hk, _⟩ := k6
        have e := hk.pl
        have e2 : K.S.l = p.gl := congrArg Pl.gl e
        have := hk.k.g.pl ⟨gB, b1, G⟩ (by show _ ∈ K.S.l; rw [e2]; assumption)
        have h3 := hk.cc
        have h4 : G.length ≤ K.S.c := this
        omega
      have hKg := killg_p k6 (by omega) gB (by decide) 15
      obtain ⟨m1, c1⟩ := hI.out.2.1.term k6.pw.pw.srt
      rw [c1, hm] at hKg
      rw [hm]
      unfold kptr at hKg
      simp only [gB] at hKg
      have stm : Hid ((2 : Int) ∈ G ∧ Md (kgQ p gB 15) b1 b2 G (2 + j)) := ⟨hI.out.1, m1⟩
      have hmH := hidK hm
      have hIR6 := hidK hir
      clear hMm hir hk6 k6 hmo m1 c1 hI hne hm
      go_wp2_with fail
      refine hKg.mono ?_
      rintro e W7 ⟨rfl, k7⟩
      have k7' : Kp (FI (.slice pp m cc) G) w kb (7 + 2 * j) (kgQ p gB 15) W7 := k7
      have hD := die_p k7' (by omega) 2 (by decide) (by decide)
      have hk0 := stm.out.2.kill0 2
      rw [show dieQE (kgQ p gB 15) 2 = 80 by unfold dieQE; rw [hk0]; rfl, show dieQ (kgQ p gB 15) 2 = kgQ p gB 15 by unfold dieQ; rw [hk0]; rfl] at hD
      unfold kptr at hD
      obtain ⟨p2, hp2⟩ : ∃ p2, kgQ p gB 15 = p2 := ⟨_, rfl⟩
      rw [hp2] at hD stm
      clear hKg k7 k7' hk0 hp2 hIR6
      go_wp2_with fail
      refine hD.mono ?_
      rintro e W8 ⟨rfl, k8⟩
      have st8 : Hid ((∀ x ∈ G, x ∈ G) ∧ Md p2 b1 b2 G (2 + j + 0) ∧ Kp (FI (.slice pp m cc) G) w kb (8 + 2 * j + 2 * 0) p2 W8) := ⟨fun _ h => h, stm.out.2, k8.mono (by omega)⟩
      have hGlen := hidK (show (2 : Int) ∈ G from stm.out.1)
      clear hD k8 stm
      go_wp2_with fail
      go_loopw [7, 12] (fun _ v12 wr => ∃ (i : Nat) (G2 : List Int) (p : Pl), i ≤ b ∧ v12 = .int .i64 i ∧ Hid ((∀ x ∈ G, x ∈ G2) ∧ Md p b1 b2 G2 (2 + j + i) ∧ Kp (FI (.slice pp m cc) G) w kb (8 + 2 * j + 2 * i) p wr)) (fun _ v12 _ => b - (intOf v12).toNat)
      case atStart => exact ⟨0, G, p2, by omega, rfl, st8⟩
      case round =>
        clear st8
        obtain ⟨i, G2, p3, hi, rfl, hI2⟩ := hrel
        by_cases hlt2 : i < b
        · have hltI2 : (i : Int) < (b : Int) := by omega
          obtain ⟨q, hq⟩ : ∃ q, i % m = q := ⟨_, rfl⟩
          have hqm : q < m := by rw [← hq]; exact Nat.mod_lt _ hm0
          have hmod : ((i : Nat) : Int).tmod (m : Int) = (q : Int) := by rw [Int.tmod_eq_emod_of_nonneg (by omega), ← hq]; omega
          obtain ⟨x, hx⟩ : ∃ x, G[q]? = some x := ⟨_, List.getElem?_eq_getElem (by rw [hmH.out]; exact hqm)⟩
          have hxG := List.mem_of_getElem? hx
          have hir := hI2.out.2.2.row
          obtain ⟨pp', cc', e1, hc⟩ := hir
          rcases hc with hc | ⟨gb, o, e2, hc⟩
          · rw [hc] at hxG; cases hxG
          have hpe : pp = some ⟨gb, o, none⟩ := by
            have e3 : pp = pp' := by injection e1
            exact e3.trans e2
          subst hpe
          clear e2 e1
          have hcell := hc q x hx
          have hF := fork_p hI2.out.2.2 (by omega) x (by have := hI2.out.2.1.old hI2.out.2.2.pw.pw (hI2.out.1 x hxG); omega) (by have := hI2.out.2.1.old hI2.out.2.2.pw.pw (hI2.out.1 x hxG); omega)
          obtain ⟨e0, m0⟩ := hI2.out.2.1.fork hI2.out.2.2.pw.pw (by omega) (hI2.out.1 x hxG)
          rw [e0] at hF
          unfold kptr at hF
          obtain ⟨pn, hpn⟩ : ∃ pn, (fkQ p3 x).n = pn := ⟨_, rfl⟩
          rw [hpn] at hF
          have fin : Hid (∀ W, Kp (FI (.slice (some ⟨gb, o, none⟩) m cc) G) w kb (8 + 2 * j + 2 * i + 2) (p3.with (fkQ p3 x)) W → (∀ y ∈ G, y ∈ Cg.insI (((2 + j + i : Nat) : Int) + 2) G2) ∧ Md (p3.with (fkQ p3 x)) b1 b2 (Cg.insI (((2 + j + i : Nat) : Int) + 2) G2) (2 + j + (i + 1)) ∧ Kp (FI (.slice (some ⟨gb, o, none⟩) m cc) G) w kb (8 + 2 * j + 2 * (i + 1)) (p3.with (fkQ p3 x)) W) := fun W hk => ⟨fun y hy => Cg.mem_insI.2 (.inr (hI2.out.1 y hy)), m0, hk⟩
          have hqI : (q : Int) < (m : Int) := by omega
          have hmz : ¬ (m : Int) = 0 := by omega
          clear e0 m0 hpn hI2 hc hx hxG hq
          go_wp2_with fail
          refine hF.mono ?_
          rintro e W9 ⟨rfl, k9⟩
          have fin9 := hidK (fin.out W9 k9)
          clear hF k9 fin
          go_wp2_with fail
          exact ⟨⟨i + 1, _, _, by omega, by go_num, fin9⟩, by simp [intOf]; omega⟩
        · obtain rfl : i = b := by omega
          have hltI2 : decide ((i : Int) < (i : Int)) = false := by simp
          have h2G := hidK (hI2.out.1 2 hGlen.out)
          have hKg := killg_p hI2.out.2.2 (by omega) gB (by decide) 9
          have hne2 : G2 ≠ [] := List.ne_nil_of_mem h2G.out
          have hsrt : G2.Pairwise (· < ·) := hI2.out.2.2.gw.nd ⟨gB, b1, G2⟩ (by rw [hI2.out.2.1.gl]; simp [two])
          obtain ⟨d1, c1⟩ := hI2.out.2.1.kill hI2.out.2.2.pw.pw.srt hne2 hsrt
          obtain ⟨m2, hm2⟩ : ∃ m2, G2.length = m2 := ⟨_, rfl⟩
          have hm20 : 0 < m2 := by rw [← hm2]; exact List.length_pos_iff.2 hne2
          rw [c1, hm2] at hKg
          unfold kptr at hKg
          simp only [gB] at hKg
          have d1H : Hid (Dd (kgQ p3 gB 9) b1 b2 G2) := d1
          have hm60a : Hid (m2 ≤ 60) := by
            show m2 ≤ 60
            rw [← hm2]
            exact hI2.out.2.1.few hI2.out.2.2.pw.pw hsrt (by omega)
          have hm2H := hidK hm2
          have hne2H := hidK hne2
          clear d1 c1 hm2 hI2 hsrt hmH hGlen hne2
          go_wp2_with fail
          refine hKg.mono ?_
          rintro e W9 ⟨rfl, k9⟩
          have k9H : Hid (Kp (FI (.slice pp m cc) G) w kb (8 + 2 * j + 2 * i) (kgQ p3 gB 9) W9) := k9
          obtain ⟨p4, hp4⟩ : ∃ p4, kgQ p3 gB 9 = p4 := ⟨_, rfl⟩
          rw [hp4] at k9H d1H
          have hG := groups_p kb W9
          unfold kptr at hG
          clear hKg k9 hp4
          go_wp2_with fail
          refine hG.mono ?_
          rintro e W9' ⟨rfl, rfl⟩
          have hMm := members_p k9H.out (by omega) gB (by decide)
          rw [show Cg.mOf p4.gl gB = G2 by rw [d1H.out.gl, two_mOf]] at hMm
          unfold gptr at hMm ⊢
          simp only [gB] at hMm
          clear hG k9H
          go_wp2_with fail
          refine hMm.mono ?_
          rintro e W10 ⟨v2, rfl, hir, _, hk10⟩
          have k10 := hk10 hne2H.out
          obtain ⟨pq, cq, rfl, hc⟩ := id hir
          rcases hc with hc | ⟨gb, o, rfl, hc⟩
          · exact absurd hc hne2H.out
          obtain ⟨x0, hx0⟩ : ∃ x0, G2[0]? = some x0 := ⟨_, List.getElem?_eq_getElem (by rw [hm2H.out]; exact hm20)⟩
          have hcell := hc 0 x0 hx0
          simp only [Nat.add_zero] at hcell
          have hxr : -9223372036854775808 ≤ x0 ∧ x0 ≤ 9223372036854775807 := by
            obtain ⟨q0, hq0, _, _⟩ := d1H.out.liv x0 (List.mem_of_getElem? hx0)
            have := k10.pw.pw.rng q0 (Pc.lk_mem hq0)
            have h3 := k10.pw.la
            rw [Pc.lk_pid hq0] at this
            omega
          have hF := fork_p k10 (by omega) x0 hxr.1 hxr.2
          obtain ⟨e0, d2⟩ := d1H.out.fork (List.mem_of_getElem? hx0)
          rw [e0] at hF
          unfold kptr at hF
          obtain ⟨pn, hpn⟩ : ∃ pn, (fkQ p4 x0).n = pn := ⟨_, rfl⟩
          obtain ⟨p5, hp5⟩ : ∃ p5, p4.with (fkQ p4 x0) = p5 := ⟨_, rfl⟩
          rw [hpn, hp5] at hF
          rw [hp5] at d2
          have d2H := hidK d2
          rw [hm2H.out] at hF ⊢
          have hm2I : (0 : Int) < (m2 : Int) := by omega
          have hm60 : Hid (m2 ≤ 60) := hm60a.out
          have hm2b : m2 ≤ 1000000 := by
            have : (⟨gB, b1, G2⟩ : Cg.G) ∈ p4.gl := by rw [d1H.out.gl]; simp [two]
            obtain ⟨K, hk, _⟩ := k10
            have e2 : K.S.l = p4.gl := congrArg Pl.gl hk.pl
            have := hk.k.g.pl ⟨gB, b1, G2⟩ (by show _ ∈ K.S.l; rw [e2]; assumption)
            have h3 := hk.cc
            have h4 : G2.length ≤ K.S.c := this
            rw [hm2H.out] at h4
            omega
          clear hMm hir hk10 k10 hc hx0 hxr e0 d2 hpn hp5 d1H
          go_wp2_with fail
          refine hF.mono ?_
          rintro e W11 ⟨rfl, k11⟩
          have st11 : Hid (Dd p5 b1 b2 (G2.drop 0) ∧ Kp (FI (.slice (some ⟨gb, o, none⟩) m2 cq) G2) w kb (10 + 2 * j + 2 * i + 0) p5 W11) := ⟨d2H.out, k11.mono (by omega)⟩
          clear hF k11 d2H
          go_wp2_with fail
          go_loopw [14] (fun v14 wr => ∃ (t : Nat) (p : Pl), t ≤ m2 ∧ v14 = .int .i64 t ∧ Hid (Dd p b1 b2 (G2.drop t) ∧ Kp (FI (.slice (some ⟨gb, o, none⟩) m2 cq) G2) w kb (10 + 2 * j + 2 * i + t) p wr)) (fun v14 _ => m2 - (intOf v14).toNat)
          case atStart => exact ⟨0, p5, by omega, rfl, st11⟩
          case round =>
            clear st11
            obtain ⟨t, p6, ht, rfl, hI3⟩ := hrel
            by_cases hlt3 : t < m2
            · have hltI3 : (t : Int) < (m2 : Int) := by omega
              obtain ⟨x, hx⟩ : ∃ x, G2[t]? = some x := ⟨_, List.getElem?_eq_getElem (by rw [hm2H.out]; exact hlt3)⟩
              have hdr : G2.drop t = x :: G2.drop (t + 1) := by
                obtain ⟨q1, q2⟩ := List.getElem?_eq_some_iff.1 hx
                rw [List.drop_eq_getElem_cons q1, q2]
              have hD0 := hI3.out.1
              rw [hdr] at hD0
              obtain ⟨pp', cc', e1, hc⟩ := hI3.out.2.row
              rcases hc with hc | ⟨gb', o', e2, hc⟩
              · rw [hc] at hx; cases hx
              have hpe : (some ⟨gb, o, none⟩ : Option Addr) = some ⟨gb', o', none⟩ := by
                have e3 : some ⟨gb, o, none⟩ = pp' := by injection e1
                exact e3.trans e2
              have hpe1 : gb' = gb := by injection hpe with q; injection q with q1 q2; exact q1.symm
              have hpe2 : o' = o := by injection hpe with q; injection q with q1 q2; exact q2.symm
              subst hpe1 hpe2
              have hcell := hc t x hx
              have hxr : -9223372036854775808 ≤ x ∧ x ≤ 9223372036854775807 := by
                obtain ⟨q0, hq0, _, _⟩ := hD0.liv x (by simp)
                have := hI3.out.2.pw.pw.rng q0 (Pc.lk_mem hq0)
                have h3 := hI3.out.2.pw.la
                rw [Pc.lk_pid hq0] at this
                omega
              have hm2b' : m2 ≤ 60 := hm60.out
              have hD := die_p hI3.out.2 (by omega) x hxr.1 hxr.2
              obtain ⟨z0, d3⟩ := hD0.die hI3.out.2.pw.pw.srt
              rw [z0] at hD
              unfold kptr at hD
              obtain ⟨p7, hp7⟩ : ∃ p7, dieQ p6 x = p7 := ⟨_, rfl⟩
              rw [hp7] at hD d3
              have d3H := hidK d3
              clear hD0 hdr hx hc e1 e2 hpe hxr z0 d3 hp7 hI3
              go_wp2_with fail
              refine hD.mono ?_
              rintro e W12 ⟨rfl, k12⟩
              have k12H := hidK k12
              clear hD k12
              go_wp2_with fail
              exact ⟨⟨t + 1, p7, by omega, by go_num, d3H.out, k12H.out⟩, by simp [intOf]; omega⟩
            · obtain rfl : t = m2 := by omega
              have hltI3 : decide ((t : Int) < (t : Int)) = false := by simp
              have hd := hI3.out.1
              rw [List.drop_of_length_le (by rw [hm2H.out]; omega)] at hd
              have hm2b' : t ≤ 60 := hm60.out
              have hns : p6.ns = [gB] := hd.ns
              have hE := emptied_p hI3.out.2 (by rw [hns]; intro x hx; simp at hx; subst hx; decide)
              rw [hns, hd.gl, show Cg.empR (two b1 b2 []) [gB] = (some gB, []) by kernel_rfl] at hE
              have hG := groups_p kb wr
              unfold gptr at hE
              unfold kptr gptr at hG
              simp only [gB, Cg.ifS, Option.getD_some, Option.isSome_some] at hE
              have hdH := hidK hd
              have hEH := hidK hE
              clear hI3 hd hns hE
              go_wp2_with fail
              refine hG.mono ?_
              rintro e wr3 ⟨rfl, rfl⟩
              have hE := hEH.out
              clear hG
              go_wp2_with fail
              refine hE.mono ?_
              rintro e W13 ⟨rfl, k13⟩
              obtain ⟨p8, hp8⟩ : ∃ p8 : Pl, ({ room := p6.room, last := p6.last, l := p6.l, gl := two b1 b2 [], ns := [], mono := p6.mono, wall := p6.wall } : Pl) = p8 := ⟨_, rfl⟩
              have hl8 : p8.l = p6.l := by rw [← hp8]
              have hg8 : p8.gl = two b1 b2 [] := by rw [← hp8]
              have k13' : Kp (FI (.slice (some ⟨gb, o, none⟩) t cq) G2) w kb (10 + 2 * j + 2 * i + t) p8 W13 := by rw [← hp8]; exact k13
              have hP := procs_p kb W13
              unfold kptr at hP
              have k13H := hidK k13'
              have h3 : killd p8.l 3 = false := by rw [hl8]; exact hdH.out.h3
              have h3H := hidK h3
              have hg8H := hidK hg8
              clear hE hEH k13 k13' hp8 hl8 hg8 h3 hdH
              go_wp2_with fail
              refine hP.mono ?_
              rintro e W13' ⟨rfl, rfl⟩
              have hSg := sig_p k13H.out 3 (by decide) (by decide)
              rw [h3H.out] at hSg
              obtain ⟨tm, htm⟩ : ∃ tm, ((Pc.lk p8.l 3).getD Pc.zPr).term = tm := ⟨_, rfl⟩
              rw [htm] at hSg
              unfold kptr at hSg
              clear hP htm
              go_wp2_with fail
              refine hSg.mono ?_
              rintro e W14 ⟨rfl, k14⟩
              have hG := groups_p kb W14
              unfold kptr gptr at hG
              have k14H := hidK k14
              clear hSg k14
              go_wp2_with fail
              refine hG.mono ?_
              rintro e W14' ⟨rfl, rfl⟩
              have hMm := members_p k14H.out (by omega) gB (by decide)
              rw [show Cg.mOf p8.gl gB = [] by rw [hg8H.out]; exact two_mOf _ _ _] at hMm
              unfold gptr at hMm
              simp only [gB] at hMm
              clear hG
              go_wp2_with fail
              refine hMm.mono ?_
              rintro e W15 ⟨v3, rfl, ⟨p9, c9, rfl, _⟩, k15, _⟩
              have hG := groups_p kb W15
              unfold kptr gptr at hG
              have k15H := hidK k15
              clear hMm k15
              go_wp2_with fail
              refine hG.mono ?_
              rintro e W15' ⟨rfl, rfl⟩
              have hMm := members_p k15H.out (by omega) hB (by decide)
              rw [show Cg.mOf p8.gl hB = [3] by rw [hg8H.out]; exact two_mOfh _ _ _] at hMm
              unfold gptr at hMm
              simp only [hB] at hMm
              clear hG
              go_wp2_with fail
              refine hMm.mono ?_
              rintro e W16 ⟨v4, rfl, ⟨p10, c10, rfl, _⟩, k16, _⟩
              have fin := hidK k16.bl
              clear hMm k16
              go_wp2_with fail
              go_ret
              exact ⟨rfl, fin.out⟩
end Go.Proofs.YtgienkdfodjoiaaGreat
