import Derived.Test.YtehlnhljpdjppaaGreatDoorZH
/- The contract of the reference's Date. -/
namespace Go.Proofs.YtehlnhljpdjppaaGreatDoor
open Go.RowKit
set_option maxRecDepth 100000 in
set_option maxHeartbeats 2000000 in
theorem rDate_no (n : Int) (w : World) (h : n < 0 ∨ 84371 ≤ n) (hi : n ≤ 9223372036854775807) :
    Calls Tryz.prog 16 #[.int .i64 n] w fun e w' => e = .returned (.tuple #[.agg #[.int .i64 0, .int .i64 0, .int .i64 0], .int .i64 20]) ∧ Below w.heap.size w w' := by
  by_cases hn : n < 0
  · go_enter Tryz.func16, Tryz.ntmps16
    go_wp2_with fail
    exact bodyPost_ret (v := .tuple #[.agg #[.int .i64 0, .int .i64 0, .int .i64 0], .int .i64 20]) (by simp [results, Tryz.results16, go_sem]) rfl ⟨rfl, (Below.refl _ _).alloc (Nat.le_refl _) _⟩
  · have hg : 84371 ≤ n := by omega
    have b70 : Civ.dby 1970 = 0 := Civ.dby_1970
    clear h
    go_enter Tryz.func16, Tryz.ntmps16
    go_wp2_with fail
    go_loop [0, 4] (fun a b => ∃ z : Int, 1970 ≤ z ∧ z ≤ 2201 ∧ b = .int .i64 z ∧ a = .int .i64 (n - Civ.dby z)) (fun _ b => (2201 - intOf b).toNat)
    case atStart => exact ⟨1970, by omega, by omega, rfl, by rw [b70]; simp⟩
    case round =>
      obtain ⟨z, z0, z1, rfl, rfl⟩ := hrel
      obtain ⟨zb0, zb1⟩ := Civ.dby_bd z0 (by omega)
      have zs := hide4 (Civ.dby_succ z)
      have zl := Civ.lp_01 z
      by_cases hlt : z ≤ 2200
      · have hz1 : 365 + Civ.lp z ≤ n - Civ.dby z := by
          have h1 := Civ.dby_mono (a := z + 1) (b := 2201) (by omega)
          rw [Civ.dby_2201, zs.out] at h1
          omega
        go_wp2_with fail
        refine (rYear_any z _ (by omega) (by omega)).mono ?_
        rintro e w2 ⟨rfl, rfl⟩
        go_wp2_with fail
        refine (rYear_any z _ (by omega) (by omega)).mono ?_
        rintro e w2 ⟨rfl, rfl⟩
        go_wp2_with fail
        exact ⟨⟨z + 1, by omega, by omega, rfl, by rw [zs.out]; go_num⟩, by simp [intOf]; omega⟩
      · go_wp2_with fail
        exact bodyPost_ret (v := .tuple #[.agg #[.int .i64 0, .int .i64 0, .int .i64 0], .int .i64 20]) (by simp [results, Tryz.results16, go_sem]) rfl ⟨rfl, (Below.refl _ _).alloc (Nat.le_refl _) _⟩
set_option maxRecDepth 100000 in
set_option maxHeartbeats 4000000 in
theorem rDate_yes (n : Int) (w : World) (h0 : 0 ≤ n) (h1 : n < 84371) :
    Calls Tryz.prog 16 #[.int .i64 n] w fun e w' => e = .returned (.tuple #[.agg #[.int .i64 (Civ.dY n), .int .i64 (Civ.dM n), .int .i64 (Civ.dD n)], .int .i64 0]) ∧ Below w.heap.size w w' := by
  have b70 : Civ.dby 1970 = 0 := Civ.dby_1970
  go_enter Tryz.func16, Tryz.ntmps16
  go_wp2_with fail
  go_loop [0, 4] (fun a b => ∃ z : Int, 1970 ≤ z ∧ z ≤ 2200 ∧ Civ.dby z ≤ n ∧ b = .int .i64 z ∧ a = .int .i64 (n - Civ.dby z)) (fun _ b => (2201 - intOf b).toNat)
  case atStart => exact ⟨1970, by omega, by omega, by omega, rfl, by rw [b70]; simp⟩
  case round =>
    obtain ⟨z, z0, z1, z2, rfl, rfl⟩ := hrel
    obtain ⟨zb0, zb1⟩ := Civ.dby_bd z0 (by omega)
    have zs := hide4 (Civ.dby_succ z)
    have zl := Civ.lp_01 z
    by_cases hlt : 365 + Civ.lp z ≤ n - Civ.dby z
    · have hz : z + 1 ≤ 2200 := by
        by_cases e : z + 1 ≤ 2200
        · exact e
        · have : z = 2200 := by omega
          subst this
          have h9 : Civ.dby (2200 + 1) = Civ.dby 2201 := rfl
          have := Civ.dby_2201
          have := zs.out
          omega
      go_wp2_with fail
      refine (rYear_any z _ (by omega) (by omega)).mono ?_
      rintro e w2 ⟨rfl, rfl⟩
      go_wp2_with fail
      refine (rYear_any z _ (by omega) (by omega)).mono ?_
      rintro e w2 ⟨rfl, rfl⟩
      go_wp2_with fail
      exact ⟨⟨z + 1, by omega, hz, by rw [zs.out]; omega, rfl, by rw [zs.out]; go_num⟩, by simp [intOf]; omega⟩
    · have hy : Civ.yr n = z := Civ.yr_uniq h0 h1 z2 (by have := zs.out; omega)
      have hl : Hid (∀ k : Nat, Civ.cum z k ≤ n - Civ.dby z → n - Civ.dby z < Civ.cum z (k + 1) → Civ.dY n = z ∧ Civ.dM n = (k : Int) + 1 ∧ Civ.dD n = n - Civ.dby z - Civ.cum z k + 1) := by
        intro k e1 e2
        have := Civ.mth_uniq (y := z) (r := n - Civ.dby z) (by omega) (by omega) e1 e2
        unfold Civ.dY Civ.dM Civ.dD
        rw [hy, this]
        exact ⟨rfl, rfl, rfl⟩
      have h12 : Hid (n - Civ.dby z < Civ.cum z 12) := by show _ < _; rw [Civ.cum_12]; omega
      clear hy zs
      go_wp2_with fail
      refine (rYear_any z _ (by omega) (by omega)).mono ?_
      rintro e w2 ⟨rfl, rfl⟩
      go_wp2_with fail
      go_loopw [0, 5] (fun a b wr => ∃ k : Nat, k < 12 ∧ Civ.cum z k ≤ n - Civ.dby z ∧ b = .int .i64 ((k : Int) + 1) ∧ a = .int .i64 (n - Civ.dby z - Civ.cum z k) ∧ Below (w.heap.size + 1) (w.alloc (.cells #[.int .i64 0, .int .i64 0, .int .i64 0] 26)) wr) (fun _ b _ => (13 - intOf b).toNat)
      case atStart => exact ⟨0, by omega, by simp [Civ.cum]; omega, rfl, by simp [Civ.cum], Below.refl _ _⟩
      case round =>
        obtain ⟨k, k0, k1, rfl, rfl, hbr⟩ := hrel
        have cb := Civ.cum_bd z (k := k) (by omega)
        have db := Civ.dim_bd z ((k : Int) + 1)
        have cs := hide4 (Civ.cum_succ z k)
        have hzr := hbr.size
        rw [World.size_alloc] at hzr
        by_cases hge : Civ.dim z ((k : Int) + 1) ≤ n - Civ.dby z - Civ.cum z k
        · have hk : k + 1 < 12 := by
            by_cases e : k + 1 < 12
            · exact e
            · have e2 : k + 1 = 12 := by omega
              have := h12.out
              rw [← e2, cs.out] at this
              omega
          go_wp2_with fail
          refine (rLength_any z ((k : Int) + 1) _ (by omega) (by omega) (by omega) (by omega)).mono ?_
          rintro e w3 ⟨rfl, hb3⟩
          go_wp2_with fail
          refine (rLength_any z ((k : Int) + 1) _ (by omega) (by omega) (by omega) (by omega)).mono ?_
          rintro e w4 ⟨rfl, hb4⟩
          go_wp2_with fail
          have hb34 := hbr.trans ((hb3.trans (hb4.mono hb3.size)).mono hzr)
          exact ⟨⟨k + 1, hk, by rw [cs.out]; omega, by go_num, by rw [cs.out]; go_num, hb34⟩, by simp [intOf]; omega⟩
        · obtain ⟨e1, e2, e3⟩ := hl.out k k1 (by rw [cs.out]; omega)
          have he := hide4 (And.intro e1 (And.intro e2 e3))
          clear e1 e2 e3 cs hl h12
          go_wp2_with fail
          refine (rLength_any z ((k : Int) + 1) _ (by omega) (by omega) (by omega) (by omega)).mono ?_
          rintro e w3 ⟨rfl, hb3⟩
          have hb4 := hbr.trans (hb3.mono hzr)
          have c0 : w3.cell? ⟨w.heap.size, 0, none⟩ = some (.int .i64 0) := by rw [hb4.cell (by simp)]; simp
          have c1 : w3.cell? ⟨w.heap.size, 1, none⟩ = some (.int .i64 0) := by rw [hb4.cell (by simp)]; simp
          have c2 : w3.cell? ⟨w.heap.size, 2, none⟩ = some (.int .i64 0) := by rw [hb4.cell (by simp)]; simp
          have f0 : w3.frozen? ⟨w.heap.size, 0, none⟩ = false := by rw [hb4.frozen (by simp)]; simp
          have f1 : w3.frozen? ⟨w.heap.size, 1, none⟩ = false := by rw [hb4.frozen (by simp)]; simp
          have f2 : w3.frozen? ⟨w.heap.size, 2, none⟩ = false := by rw [hb4.frozen (by simp)]; simp
          go_wp2_with fail
          have hB := ((Below.refl _ w).alloc (Nat.le_refl _) (.cells #[.int .i64 0, .int .i64 0, .int .i64 0] 26)).trans (hb4.mono (by omega))
          refine bodyPost_ret (v := .tuple #[.agg #[.int .i64 z, .int .i64 ((k : Int) + 1), .int .i64 (n - Civ.dby z - Civ.cum z k + 1)], .int .i64 0]) (by simp [results, Tryz.results16, go_sem, c0, c1, c2]) rfl ⟨?_, ?_⟩
          · rw [he.out.1, he.out.2.1, he.out.2.2]
          · exact ((hB.setCell (p := ⟨w.heap.size, 0, none⟩) (by simp) _).setCell (p := ⟨w.heap.size, 1, none⟩) (by simp) _).setCell (p := ⟨w.heap.size, 2, none⟩) (by simp) _
end Go.Proofs.YtehlnhljpdjppaaGreatDoor
