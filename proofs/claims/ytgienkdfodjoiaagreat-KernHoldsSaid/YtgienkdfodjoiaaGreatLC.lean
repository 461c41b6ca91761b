/- KernClocks: the walk. -/
import Derived.Test.YtgienkdfodjoiaaGreatK9
namespace Go.Proofs.YtgienkdfodjoiaaGreat
open Go.RowKit Go.Shelf
theorem i64w (x : Int) (h : 0 ≤ x) (h' : x ≤ 9223372036854775807) : IntKind.i64.wrap x = x := by
  show (if (true && decide (x % 18446744073709551616 ≥ 9223372036854775808)) = true then x % 18446744073709551616 - 18446744073709551616 else x % 18446744073709551616) = x
  have e : x % 18446744073709551616 = x := Int.emod_eq_of_lt h (by omega)
  rw [e]
  simp
  omega
theorem addS_small {a b : Int} (ha : 0 ≤ a) (hb : 0 ≤ b) (h : a + b < 9223372036854775807) : addS a b = a + b := by
  unfold addS
  rw [if_neg (by omega), if_neg (by omega), if_neg (by omega)]
/-- The clocks of a kernel that has nothing else. -/
def pc (m t : Int) : Pl := ⟨3, 1, [], [], [], m, t⟩
set_option maxRecDepth 100000 in
set_option maxHeartbeats 4000000 in
theorem clocks_walk (wl : Int) (a : Option Addr) (b o n cap : Nat) (us : List Nat) (a2 : Option Addr) (b2 o2 n2 cap2 : Nat) (zs : List Int) (w : World) (hw0 : -9223372036854775808 ≤ wl) (hw1 : wl ≤ 9223372036854775807)
    (ha : 0 < n → a = some ⟨b, o, none⟩) (hl : us.length = n) (hel : ∀ (j u : Nat), us[j]? = some u → w.cell? ⟨b, o + j, none⟩ = some (.int .u16 (u : Nat))) (hub : ∀ u ∈ us, u ≤ 65535) (hml : n ≤ maxLen)
    (ha2 : 0 < n2 → a2 = some ⟨b2, o2, none⟩) (hl2 : zs.length = n2) (hel2 : ∀ (j : Nat) (x : Int), zs[j]? = some x → w.cell? ⟨b2, o2 + j, none⟩ = some (.int .i64 x)) (hml2 : n2 ≤ maxLen) :
    Calls Tryz.prog 6 #[.int .i64 wl, .slice a n cap, .slice a2 n2 cap2] w fun e w' => e = .returned (.bool true) ∧ Below w.heap.size w w' := by
  have hK := hidK (known_any w)
  have haH := hidK ha
  have hlH := hidK hl
  have helH := hidK hel
  have hubH := hidK hub
  have ha2H := hidK ha2
  have hl2H := hidK hl2
  have hel2H := hidK hel2
  have hnm : (n : Int) ≤ 9223372036854775807 := by unfold maxLen at hml; omega
  have hnm2 : (n2 : Int) ≤ 9223372036854775807 := by unfold maxLen at hml2; omega
  clear ha hl hel hub hml ha2 hl2 hel2 hml2
  by_cases h60 : 60 < n
  · have h60I : (60 : Int) < (n : Int) := by omega
    go_enter Tryz.func6, Tryz.ntmps6
    go_wp2_with fail
    refine hK.out.mono ?_
    rintro e V ⟨rfl, hbV⟩
    go_wp2_with fail
    go_ret
    exact ⟨rfl, hbV⟩
  have h60I : decide ((60 : Int) < (n : Int)) = false := by simp; omega
  by_cases h61 : 60 < n2
  · have h61I : (60 : Int) < (n2 : Int) := by omega
    go_enter Tryz.func6, Tryz.ntmps6
    go_wp2_with fail
    refine hK.out.mono ?_
    rintro e V ⟨rfl, hbV⟩
    go_wp2_with fail
    go_ret
    exact ⟨rfl, hbV⟩
  have h61I : decide ((60 : Int) < (n2 : Int)) = false := by simp; omega
  by_cases h62 : wl < 0
  · skip
    go_enter Tryz.func6, Tryz.ntmps6
    go_wp2_with fail
    refine hK.out.mono ?_
    rintro e V ⟨rfl, hbV⟩
    go_wp2_with fail
    go_ret
    exact ⟨rfl, hbV⟩
  have h62I : decide (wl < 0) = false := by simp; omega
  by_cases h63 : 1152921504606846976 < wl
  · skip
    go_enter Tryz.func6, Tryz.ntmps6
    go_wp2_with fail
    refine hK.out.mono ?_
    rintro e V ⟨rfl, hbV⟩
    go_wp2_with fail
    go_ret
    exact ⟨rfl, hbV⟩
  have h63I : decide (1152921504606846976 < wl) = false := by simp; omega
  have hwlH := hidK (show 0 ≤ wl ∧ wl ≤ 1152921504606846976 by omega)
  have hn60 := hidK (show n ≤ 60 by omega)
  have hn61 := hidK (show n2 ≤ 60 by omega)
  clear h60 h61 h62 h63
  go_enter Tryz.func6, Tryz.ntmps6
  go_wp2_with fail
  refine hK.out.mono ?_
  rintro e V ⟨rfl, hbV⟩
  have hN := hidK (new_p 3 wl V)
  have hbVH := hidK hbV
  clear hbV
  go_wp2_with fail
  refine hN.out.mono ?_
  rintro e W1 ⟨kb, rfl, _, k1⟩
  have k1H : Hid (Kp F0 w kb 1 (pc 0 wl) W1) := k1.old hbVH.out
  clear hN k1 hbVH hK h60I h61I h62I h63I hw0 hw1
  unfold kptr
  go_wp2_with fail
  go_loopw [0, 8, 9] (fun v0 v8 v9 wr => ∃ (j : Nat) (wa mo : Int), j ≤ n ∧ v9 = .int .i64 j ∧ v0 = .int .i64 wa ∧ v8 = .int .i64 mo ∧ Hid (0 ≤ wa ∧ wa ≤ 1152921504606846976 + 65535 * (j : Int) ∧ 0 ≤ mo ∧ mo ≤ 65535 * (j : Int) ∧ Kp F0 w kb 1 (pc mo wa) wr)) (fun _ _ v9 _ => n - (intOf v9).toNat)
  case atStart => exact ⟨0, wl, 0, by omega, rfl, rfl, rfl, hwlH.out.1, by have := hwlH.out.2; omega, by omega, by omega, k1H.out⟩
  case round =>
    obtain ⟨j, wa, mo, hj, rfl, rfl, rfl, hI⟩ := hrel
    by_cases hlt : j < n
    · have hltI : (j : Int) < (n : Int) := by omega
      obtain ⟨u, hu⟩ : ∃ u, us[j]? = some u := ⟨_, List.getElem?_eq_getElem (by rw [hlH.out]; exact hlt)⟩
      have hub := hubH.out u (List.mem_of_getElem? hu)
      have hae := haH.out (by omega)
      subst hae
      have hkp := hI.out.2.2.2.2
      have hold : Hid (∀ (wx : World), Below w.heap.size w wx → wx.cell? ⟨b, o + j, none⟩ = some (.int .u16 (u : Nat))) := fun wx bl => (Mv.below (E := fun _ => False) bl).cell (a := ⟨b, o + j, none⟩) (fun h => h) (helH.out j u hu)
      have c0 := hold.out wr hkp.bl
      have y0 : IntKind.i64.wrap (u : Int) = (u : Int) := i64w _ (by omega) (by omega)
      have hu0 : (0 : Int) ≤ (u : Int) := by omega
      have hu1 : (u : Int) ≤ 65535 := by omega
      obtain ⟨q4, hq4⟩ : ∃ q4, ((u : Nat) : Int).tmod 4 = q4 := ⟨_, rfl⟩
      have hn60' := hn60.out
      have tail : Hid (∀ (wx : World) (wa' : Int), 0 ≤ wa' → wa' ≤ 1152921504606846976 + 65535 * (j : Int) → Kp F0 w kb 1 (pc mo wa') wx → (Calls Tryz.prog 31 #[.pointer (some ⟨kb, 0, none⟩), .int .i64 (u : Int)] wx fun e W' => e = .returned (.int .i64 0) ∧ Kp F0 w kb 1 (pc (mo + u) (wa' + u)) W') ∧ IntKind.i64.wrap (mo + (u : Int)) = mo + u ∧ IntKind.i64.wrap (wa' + (u : Int)) = wa' + u) := by
        intro wx wa' h0 h1 hk
        have := hI.out
        have hm : addS mo u = mo + u := addS_small (by omega) (by omega) (by omega)
        have hw : addS wa' u = wa' + u := addS_small (by omega) (by omega) (by omega)
        have t := tick_p hk (show -9223372036854775808 ≤ mo by omega) (show mo ≤ 9223372036854775807 by omega) (show -9223372036854775808 ≤ wa' by omega) (show wa' ≤ 9223372036854775807 by omega) u (by omega) (by omega)
        refine ⟨t.mono (fun e W' q => ⟨q.1, ?_⟩), i64w _ (by omega) (by omega), i64w _ (by omega) (by omega)⟩
        have h2 := q.2
        dsimp only [pc] at h2
        rw [hm, hw] at h2
        exact h2
      have fin : Hid (∀ (wx : World) (wa' : Int), 0 ≤ wa' → wa' ≤ 1152921504606846976 + 65535 * (j : Int) → Kp F0 w kb 1 (pc (mo + u) (wa' + u)) wx → (0 ≤ wa' + u ∧ wa' + u ≤ 1152921504606846976 + 65535 * ((j + 1 : Nat) : Int) ∧ 0 ≤ mo + u ∧ mo + u ≤ 65535 * ((j + 1 : Nat) : Int) ∧ Kp F0 w kb 1 (pc (mo + u) (wa' + u)) wx)) := fun wx wa' h0 h1 hk => by
        have := hI.out
        exact ⟨by omega, by omega, by omega, by omega, hk⟩
      by_cases hj2 : j < n2
      · have hj2I : (j : Int) < (n2 : Int) := by omega
        obtain ⟨x, hx⟩ : ∃ x, zs[j]? = some x := ⟨_, List.getElem?_eq_getElem (by rw [hl2H.out]; exact hj2)⟩
        have hae2 := ha2H.out (by omega)
        subst hae2
        have x0 := (Mv.below (E := fun _ => False) hkp.bl).cell (a := ⟨b2, o2 + j, none⟩) (fun h => h) (hel2H.out j x hx)
        have xH : Hid (∀ wx, Below w.heap.size w wx → wx.cell? ⟨b2, o2 + j, none⟩ = some (.int .i64 x)) := fun wx bl => (Mv.below (E := fun _ => False) bl).cell (a := ⟨b2, o2 + j, none⟩) (fun h => h) (hel2H.out j x hx)
        by_cases hq : q4 = 0
        · have hqb : (q4 == 0) = true := by simpa using hq
          subst hq
          by_cases hx0 : 0 ≤ x
          · by_cases hx1 : x < 1152921504606846976
            · have hwa0 : Hid (0 ≤ x) := hx0
              have hwa1 : Hid (x ≤ 1152921504606846976 + 65535 * (j : Int)) := by show _ ≤ _; omega
              have hJ := jump_p hkp x
              unfold kptr at hJ
              clear hI hu hkp hx
              go_wp2_with fail
              refine hJ.mono ?_
              rintro e W2 ⟨rfl, k2⟩
              have k2' : Kp F0 w kb 1 (pc mo x) W2 := k2
              have hkH := hidK k2'
              have x2 := xH.out W2 k2'.bl
              clear hJ k2 k2'
              have T1 := tail.out W2 x hwa0.out hwa1.out hkH.out
              obtain ⟨T2, yz1, yz2⟩ := T1
              have c0' := hold.out W2 hkH.out.bl
              go_wp2_with fail
              refine T2.mono ?_
              rintro e W3 ⟨rfl, k3⟩
              have hn1 := ticks_p kb W3 (-1) (by decide)
              unfold kptr at hn1
              have k3H := hidK k3
              clear T2 k3
              go_wp2_with fail
              refine hn1.mono ?_
              rintro e W3' ⟨rfl, rfl⟩
              have c3 := hold.out W3' k3H.out.bl
              have c3d : W3'.drew.cell? ⟨b, o + j, none⟩ = some (.int .u16 (u : Nat)) := c3
              clear hn1
              go_wp2_with fail
              go_quiet (fail)
              go_wp2_with fail
              have k4 : Kp F0 w kb 1 (pc (mo + u) (x + u)) (W3'.drewN nq) := k3H.out.below (below_drewN (Below.refl _ _) nq)
              have hMo := mono_p k4
              have hWa := wall_p k4
              unfold kptr pc at hMo hWa
              simp only at hMo hWa
              have k4H := hidK (fin.out _ _ hwa0.out hwa1.out k4)
              clear k3H k4
              refine hMo.mono ?_
              rintro e W5 ⟨rfl, rfl⟩
              go_wp2_with fail
              refine hWa.mono ?_
              rintro e W6 ⟨rfl, rfl⟩
              go_wp2_with fail
              exact ⟨⟨j + 1, x + u, mo + u, by omega, by go_num, rfl, rfl, k4H.out⟩, by simp [intOf]; omega⟩
            · have hx1I : decide (x < 1152921504606846976) = false := by simp; omega
              have hwa0 : Hid (0 ≤ wa) := hI.out.1
              have hwa1 : Hid (wa ≤ 1152921504606846976 + 65535 * (j : Int)) := hI.out.2.1
              have hkH : Hid (Kp F0 w kb 1 (pc mo wa) wr) := hkp
              clear hI hu hkp
              have T1 := tail.out wr wa hwa0.out hwa1.out hkH.out
              obtain ⟨T2, yz1, yz2⟩ := T1
              have c0' := hold.out wr hkH.out.bl
              go_wp2_with fail
              refine T2.mono ?_
              rintro e W3 ⟨rfl, k3⟩
              have hn1 := ticks_p kb W3 (-1) (by decide)
              unfold kptr at hn1
              have k3H := hidK k3
              clear T2 k3
              go_wp2_with fail
              refine hn1.mono ?_
              rintro e W3' ⟨rfl, rfl⟩
              have c3 := hold.out W3' k3H.out.bl
              have c3d : W3'.drew.cell? ⟨b, o + j, none⟩ = some (.int .u16 (u : Nat)) := c3
              clear hn1
              go_wp2_with fail
              go_quiet (fail)
              go_wp2_with fail
              have k4 : Kp F0 w kb 1 (pc (mo + u) (wa + u)) (W3'.drewN nq) := k3H.out.below (below_drewN (Below.refl _ _) nq)
              have hMo := mono_p k4
              have hWa := wall_p k4
              unfold kptr pc at hMo hWa
              simp only at hMo hWa
              have k4H := hidK (fin.out _ _ hwa0.out hwa1.out k4)
              clear k3H k4
              refine hMo.mono ?_
              rintro e W5 ⟨rfl, rfl⟩
              go_wp2_with fail
              refine hWa.mono ?_
              rintro e W6 ⟨rfl, rfl⟩
              go_wp2_with fail
              exact ⟨⟨j + 1, wa + u, mo + u, by omega, by go_num, rfl, rfl, k4H.out⟩, by simp [intOf]; omega⟩
          · have hx0I : decide (0 ≤ x) = false := by simp; omega
            have hwa0 : Hid (0 ≤ wa) := hI.out.1
            have hwa1 : Hid (wa ≤ 1152921504606846976 + 65535 * (j : Int)) := hI.out.2.1
            have hkH : Hid (Kp F0 w kb 1 (pc mo wa) wr) := hkp
            clear hI hu hkp
            have T1 := tail.out wr wa hwa0.out hwa1.out hkH.out
            obtain ⟨T2, yz1, yz2⟩ := T1
            have c0' := hold.out wr hkH.out.bl
            go_wp2_with fail
            refine T2.mono ?_
            rintro e W3 ⟨rfl, k3⟩
            have hn1 := ticks_p kb W3 (-1) (by decide)
            unfold kptr at hn1
            have k3H := hidK k3
            clear T2 k3
            go_wp2_with fail
            refine hn1.mono ?_
            rintro e W3' ⟨rfl, rfl⟩
            have c3 := hold.out W3' k3H.out.bl
            have c3d : W3'.drew.cell? ⟨b, o + j, none⟩ = some (.int .u16 (u : Nat)) := c3
            clear hn1
            go_wp2_with fail
            go_quiet (fail)
            go_wp2_with fail
            have k4 : Kp F0 w kb 1 (pc (mo + u) (wa + u)) (W3'.drewN nq) := k3H.out.below (below_drewN (Below.refl _ _) nq)
            have hMo := mono_p k4
            have hWa := wall_p k4
            unfold kptr pc at hMo hWa
            simp only at hMo hWa
            have k4H := hidK (fin.out _ _ hwa0.out hwa1.out k4)
            clear k3H k4
            refine hMo.mono ?_
            rintro e W5 ⟨rfl, rfl⟩
            go_wp2_with fail
            refine hWa.mono ?_
            rintro e W6 ⟨rfl, rfl⟩
            go_wp2_with fail
            exact ⟨⟨j + 1, wa + u, mo + u, by omega, by go_num, rfl, rfl, k4H.out⟩, by simp [intOf]; omega⟩
        · have hqb : (q4 == 0) = false := by simpa using hq
          have hwa0 : Hid (0 ≤ wa) := hI.out.1
          have hwa1 : Hid (wa ≤ 1152921504606846976 + 65535 * (j : Int)) := hI.out.2.1
          have hkH : Hid (Kp F0 w kb 1 (pc mo wa) wr) := hkp
          clear hI hu hkp
          have T1 := tail.out wr wa hwa0.out hwa1.out hkH.out
          obtain ⟨T2, yz1, yz2⟩ := T1
          have c0' := hold.out wr hkH.out.bl
          go_wp2_with fail
          refine T2.mono ?_
          rintro e W3 ⟨rfl, k3⟩
          have hn1 := ticks_p kb W3 (-1) (by decide)
          unfold kptr at hn1
          have k3H := hidK k3
          clear T2 k3
          go_wp2_with fail
          refine hn1.mono ?_
          rintro e W3' ⟨rfl, rfl⟩
          have c3 := hold.out W3' k3H.out.bl
          have c3d : W3'.drew.cell? ⟨b, o + j, none⟩ = some (.int .u16 (u : Nat)) := c3
          clear hn1
          go_wp2_with fail
          go_quiet (fail)
          go_wp2_with fail
          have k4 : Kp F0 w kb 1 (pc (mo + u) (wa + u)) (W3'.drewN nq) := k3H.out.below (below_drewN (Below.refl _ _) nq)
          have hMo := mono_p k4
          have hWa := wall_p k4
          unfold kptr pc at hMo hWa
          simp only at hMo hWa
          have k4H := hidK (fin.out _ _ hwa0.out hwa1.out k4)
          clear k3H k4
          refine hMo.mono ?_
          rintro e W5 ⟨rfl, rfl⟩
          go_wp2_with fail
          refine hWa.mono ?_
          rintro e W6 ⟨rfl, rfl⟩
          go_wp2_with fail
          exact ⟨⟨j + 1, wa + u, mo + u, by omega, by go_num, rfl, rfl, k4H.out⟩, by simp [intOf]; omega⟩
      · have hj2I : decide ((j : Int) < (n2 : Int)) = false := by simp; omega
        have hwa0 : Hid (0 ≤ wa) := hI.out.1
        have hwa1 : Hid (wa ≤ 1152921504606846976 + 65535 * (j : Int)) := hI.out.2.1
        have hkH : Hid (Kp F0 w kb 1 (pc mo wa) wr) := hkp
        clear hI hu hkp
        have T1 := tail.out wr wa hwa0.out hwa1.out hkH.out
        obtain ⟨T2, yz1, yz2⟩ := T1
        have c0' := hold.out wr hkH.out.bl
        go_wp2_with fail
        refine T2.mono ?_
        rintro e W3 ⟨rfl, k3⟩
        have hn1 := ticks_p kb W3 (-1) (by decide)
        unfold kptr at hn1
        have k3H := hidK k3
        clear T2 k3
        go_wp2_with fail
        refine hn1.mono ?_
        rintro e W3' ⟨rfl, rfl⟩
        have c3 := hold.out W3' k3H.out.bl
        have c3d : W3'.drew.cell? ⟨b, o + j, none⟩ = some (.int .u16 (u : Nat)) := c3
        clear hn1
        go_wp2_with fail
        go_quiet (fail)
        go_wp2_with fail
        have k4 : Kp F0 w kb 1 (pc (mo + u) (wa + u)) (W3'.drewN nq) := k3H.out.below (below_drewN (Below.refl _ _) nq)
        have hMo := mono_p k4
        have hWa := wall_p k4
        unfold kptr pc at hMo hWa
        simp only at hMo hWa
        have k4H := hidK (fin.out _ _ hwa0.out hwa1.out k4)
        clear k3H k4
        refine hMo.mono ?_
        rintro e W5 ⟨rfl, rfl⟩
        go_wp2_with fail
        refine hWa.mono ?_
        rintro e W6 ⟨rfl, rfl⟩
        go_wp2_with fail
        exact ⟨⟨j + 1, wa + u, mo + u, by omega, by go_num, rfl, rfl, k4H.out⟩, by simp [intOf]; omega⟩
    · have hltI : decide ((j : Int) < (n : Int)) = false := by simp; omega
      have hh := hI.out
      have hn60' := hn60.out
      have T1 := tick_p hh.2.2.2.2 (show -9223372036854775808 ≤ mo by omega) (show mo ≤ 9223372036854775807 by omega) (show -9223372036854775808 ≤ wa by omega) (show wa ≤ 9223372036854775807 by omega) 9223372036854775807 (by decide) (by decide)
      have hm : addS mo 9223372036854775807 = 9223372036854775807 := by unfold addS; rw [if_pos (.inr rfl)]
      have hw : addS wa 9223372036854775807 = 9223372036854775807 := by unfold addS; rw [if_pos (.inr rfl)]
      have T2 : Calls Tryz.prog 31 #[.pointer (some ⟨kb, 0, none⟩), .int .i64 9223372036854775807] wr fun e W' => e = .returned (.int .i64 0) ∧ Kp F0 w kb 1 (pc 9223372036854775807 9223372036854775807) W' := T1.mono (fun e W' q => ⟨q.1, by have h2 := q.2; dsimp only [pc] at h2; rw [hm, hw] at h2; exact h2⟩)
      clear T1 hh hI hm hw
      go_wp2_with fail
      refine T2.mono ?_
      rintro e W3 ⟨rfl, k3⟩
      have hMo := mono_p k3
      unfold kptr pc at hMo
      simp only at hMo
      have k3H := hidK k3
      clear T2 k3
      go_wp2_with fail
      refine hMo.mono ?_
      rintro e W3' ⟨rfl, rfl⟩
      have T3 := tick_p k3H.out (by decide) (by decide) (by decide) (by decide) 5 (by decide) (by decide)
      have T4 : Calls Tryz.prog 31 #[.pointer (some ⟨kb, 0, none⟩), .int .i64 5] W3' fun e W' => e = .returned (.int .i64 0) ∧ Kp F0 w kb 1 (pc 9223372036854775807 9223372036854775807) W' := T3
      clear hMo T3 k3H
      go_wp2_with fail
      refine T4.mono ?_
      rintro e W4 ⟨rfl, k4⟩
      have hMo := mono_p k4
      unfold kptr pc at hMo
      simp only at hMo
      have fin := hidK k4.bl
      clear T4 k4
      go_wp2_with fail
      refine hMo.mono ?_
      rintro e W5 ⟨rfl, rfl⟩
      go_wp2_with fail
      go_ret
      exact ⟨rfl, fin.out⟩
end Go.Proofs.YtgienkdfodjoiaaGreat
