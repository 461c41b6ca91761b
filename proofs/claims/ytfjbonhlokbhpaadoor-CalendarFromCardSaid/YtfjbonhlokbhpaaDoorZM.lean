import Derived.Test.YtfjbonhlokbhpaaDoorZH
import Derived.Test.YtfjbonhlokbhpaaDoorZC
/- The contract of the reference's Date. -/
namespace Go.Proofs.YtfjbonhlokbhpaaDoor
open Go.RowKit
set_option maxRecDepth 100000 in
set_option maxHeartbeats 2000000 in
theorem rDate_no (n : Int) (w : World) (h : n < 0 ∨ 84371 ≤ n) (hi : n ≤ 9223372036854775807) :
    Calls Tryd.prog 23 #[.int .i64 n] w fun e w' => e = .returned (.tuple #[.agg #[.int .i64 0, .int .i64 0, .int .i64 0], .int .i64 20]) ∧ Below w.heap.size w w' := by
  by_cases hn : n < 0
  · go_enter Tryd.func23, Tryd.ntmps23
    go_wp2_with fail
    exact bodyPost_ret (v := .tuple #[.agg #[.int .i64 0, .int .i64 0, .int .i64 0], .int .i64 20]) (by simp [results, Tryd.results23, go_sem]) rfl ⟨rfl, (Below.refl _ _).alloc (Nat.le_refl _) _⟩
  · have hg : 84371 ≤ n := by omega
    have b70 : Civ.dby 1970 = 0 := Civ.dby_1970
    clear h
    go_enter Tryd.func23, Tryd.ntmps23
    go_wp2_with fail
    go_loop [0, 4] (fun a b => ∃ z : Int, 1970 ≤ z ∧ z ≤ 2201 ∧ b = .int .i64 z ∧ a = .int .i64 (n - Civ.dby z)) (fun _ b => (2201 - intOf b).toNat)
    case atStart => exact ⟨1970, by omega, by omega, rfl, by rw [b70]; simp⟩
    case round =>
      obtain ⟨z, z0, z1, rfl, rfl⟩ := hrel
      obtain ⟨zb0, zb1⟩ := Civ.dby_bd z0 (by omega)
      have zs := hide4 (Civ.dby_succ z)
      have zl := Civ.lp_01 z
      by_cases hlt : z ≤ 2200
      · have hz1 : 365 + Civ.lp z ≤ n - Civ.dby z := by
          have h1 := Civ.dby_mono (a := z + 1) (b := 2201) (by omega)
          rw [Civ.dby_2201, zs.out] at h1
          omega
        go_wp2_with fail
        refine (rYear_any z _ (by omega) (by omega)).mono ?_
        rintro e w2 ⟨rfl, rfl⟩
        go_wp2_with fail
        refine (rYear_any z _ (by omega) (by omega)).mono ?_
        rintro e w2 ⟨rfl, rfl⟩
        go_wp2_with fail
        exact ⟨⟨z + 1, by omega, by omega, rfl, by rw [zs.out]; go_num⟩, by simp [intOf]; omega⟩
      · go_wp2_with fail
        exact bodyPost_ret (v := .tuple #[.agg #[.int .i64 0, .int .i64 0, .int .i64 0], .int .i64 20]) (by simp [results, Tryd.results23, go_sem]) rfl ⟨rfl, (Below.refl _ _).alloc (Nat.le_refl _) _⟩
set_option maxRecDepth 100000 in
set_option maxHeartbeats 4000000 in
theorem rDate_yes (n : Int) (w : World) (h0 : 0 ≤ n) (h1 : n < 84371) :
    Calls Tryd.prog 23 #[.int .i64 n] w fun e w' => e = .returned (.tuple #[.agg #[.int .i64 (Civ.dY n), .int .i64 (Civ.dM n), .int .i64 (Civ.dD n)], .int .i64 0]) ∧ Below w.heap.size w w' := by
  have b70 : Civ.dby 1970 = 0 := Civ.dby_1970
  go_enter Tryd.func23, Tryd.ntmps23
  go_wp2_with fail
  go_loop [0, 4] (fun a b => ∃ z : Int, 1970 ≤ z ∧ z ≤ 2200 ∧ Civ.dby z ≤ n ∧ b = .int .i64 z ∧ a = .int .i64 (n - Civ.dby z)) (fun _ b => (2201 - intOf b).toNat)
  case atStart => exact ⟨1970, by omega, by omega, by omega, rfl, by rw [b70]; simp⟩
  case round =>
    obtain ⟨z, z0, z1, z2, rfl, rfl⟩ := hrel
    obtain ⟨zb0, zb1⟩ := Civ.dby_bd z0 (by omega)
    have zs := hide4 (Civ.dby_succ z)
    have zl := Civ.lp_01 z
    by_cases hlt : 365 + Civ.lp z ≤ n - Civ.dby z
    · have hz : z + 1 ≤ 2200 := by
        by_cases e : z + 1 ≤ 2200
        · exact e
        · have : z = 2200 := by omega
          subst this
          have h9 : Civ.dby (2200 + 1) = Civ.dby 2201 := rfl
          have := Civ.dby_2201
          have := zs.out
          omega
      go_wp2_with fail
      refine (rYear_any z _ (by omega) (by omega)).mono ?_
      rintro e w2 ⟨rfl, rfl⟩
      go_wp2_with fail
      refine (rYear_any z _ (by omega) (by omega)).mono ?_
      rintro e w2 ⟨rfl, rfl⟩
      go_wp2_with fail
      exact ⟨⟨z + 1, by omega, hz, by rw [zs.out]; omega, rfl, by rw [zs.out]; go_num⟩, by simp [intOf]; omega⟩
    · have hy : Civ.yr n = z := Civ.yr_uniq h0 h1 z2 (by have := zs.out; omega)
      have hl : Hid (∀ k : Nat, Civ.cum z k ≤ n - Civ.dby z → n - Civ.dby z < Civ.cum z (k + 1) → Civ.dY n = z ∧ Civ.dM n = (k : Int) + 1 ∧ Civ.dD n = n - Civ.dby z - Civ.cum z k + 1) := by
        intro k e1 e2
        have := Civ.mth_uniq (y := z) (r := n - Civ.dby z) (by omega) (by omega) e1 e2
        unfold Civ.dY Civ.dM Civ.dD
        rw [hy, this]
        exact ⟨rfl, rfl, rfl⟩
      have h12 : Hid (n - Civ.dby z < Civ.cum z 12) := by show _ < _; rw [Civ.cum_12]; omega
      clear hy zs
      go_wp2_with fail
      refine (rYear_any z _ (by omega) (by omega)).mono ?_
      rintro e w2 ⟨rfl, rfl⟩
      go_wp2_with fail
      go_loopw [0, 5] (fun a b wr => ∃ k : Nat, k < 12 ∧ Civ.cum z k ≤ n - Civ.dby z ∧ b = .int .i64 ((k : Int) + 1) ∧ a = .int .i64 (n - Civ.dby z - Civ.cum z k) ∧ Below (w.heap.size + 1) (w.alloc (.cells #[.int .i64 0, .int .i64 0, .int .i64 0] 35)) wr) (fun _ b _ => (13 - intOf b).toNat)
      case atStart => exact ⟨0, by omega, by simp [Civ.cum]; omega, rfl, by simp [Civ.cum], Below.refl _ _⟩
      case round =>
        obtain ⟨k, k0, k1, rfl, rfl, hbr⟩ := hrel
        have cb := Civ.cum_bd z (k := k) (by omega)
        have db := Civ.dim_bd z ((k : Int) + 1)
        have cs := hide4 (Civ.cum_succ z k)
        have hzr := hbr.size
        rw [World.size_alloc] at hzr
        by_cases hge : Civ.dim z ((k : Int) + 1) ≤ n - Civ.dby z - Civ.cum z k
        · have hk : k + 1 < 12 := by
            by_cases e : k + 1 < 12
            · exact e
            · have e2 : k + 1 = 12 := by omega
              have := h12.out
              rw [← e2, cs.out] at this
              omega
          go_wp2_with fail
          refine (rLength_any z ((k : Int) + 1) _ (by omega) (by omega) (by omega) (by omega)).mono ?_
          rintro e w3 ⟨rfl, hb3⟩
          go_wp2_with fail
          refine (rLength_any z ((k : Int) + 1) _ (by omega) (by omega) (by omega) (by omega)).mono ?_
          rintro e w4 ⟨rfl, hb4⟩
          go_wp2_with fail
          have hb34 := hbr.trans ((hb3.trans (hb4.mono hb3.size)).mono hzr)
          exact ⟨⟨k + 1, hk, by rw [cs.out]; omega, by go_num, by rw [cs.out]; go_num, hb34⟩, by simp [intOf]; omega⟩
        · obtain ⟨e1, e2, e3⟩ := hl.out k k1 (by rw [cs.out]; omega)
          have he := hide4 (And.intro e1 (And.intro e2 e3))
          clear e1 e2 e3 cs hl h12
          go_wp2_with fail
          refine (rLength_any z ((k : Int) + 1) _ (by omega) (by omega) (by omega) (by omega)).mono ?_
          rintro e w3 ⟨rfl, hb3⟩
          have hb4 := hbr.trans (hb3.mono hzr)
          have c0 : w3.cell? ⟨w.heap.size, 0, none⟩ = some (.int .i64 0) := by rw [hb4.cell (by simp)]; simp
          have c1 : w3.cell? ⟨w.heap.size, 1, none⟩ = some (.int .i64 0) := by rw [hb4.cell (by simp)]; simp
          have c2 : w3.cell? ⟨w.heap.size, 2, none⟩ = some (.int .i64 0) := by rw [hb4.cell (by simp)]; simp
          have f0 : w3.frozen? ⟨w.heap.size, 0, none⟩ = false := by rw [hb4.frozen (by simp)]; simp
          have f1 : w3.frozen? ⟨w.heap.size, 1, none⟩ = false := by rw [hb4.frozen (by simp)]; simp
          have f2 : w3.frozen? ⟨w.heap.size, 2, none⟩ = false := by rw [hb4.frozen (by simp)]; simp
          go_wp2_with fail
          have hB := ((Below.refl _ w).alloc (Nat.le_refl _) (.cells #[.int .i64 0, .int .i64 0, .int .i64 0] 35)).trans (hb4.mono (by omega))
          refine bodyPost_ret (v := .tuple #[.agg #[.int .i64 z, .int .i64 ((k : Int) + 1), .int .i64 (n - Civ.dby z - Civ.cum z k + 1)], .int .i64 0]) (by simp [results, Tryd.results23, go_sem, c0, c1, c2]) rfl ⟨?_, ?_⟩
          · rw [he.out.1, he.out.2.1, he.out.2.2]
          · exact ((hB.setCell (p := ⟨w.heap.size, 0, none⟩) (by simp) _).setCell (p := ⟨w.heap.size, 1, none⟩) (by simp) _).setCell (p := ⟨w.heap.size, 2, none⟩) (by simp) _
end Go.Proofs.YtfjbonhlokbhpaaDoor
/- The contract of the reference's Moment. -/
namespace Go.Proofs.YtfjbonhlokbhpaaDoor
open Go.RowKit
set_option maxRecDepth 100000 in
set_option maxHeartbeats 1000000 in
theorem rMoment_no (t : Int) (w : World) (h : t < 0 ∨ 7289654400 ≤ t) (hi : t ≤ 9223372036854775807) :
    Calls Tryd.prog 13 #[.int .i64 t] w fun e w' => e = .returned (.tuple #[momV 0 0 0 0 0 0, .int .i64 20]) ∧ Below w.heap.size w w' := by
  by_cases hn : t < 0
  · go_enter Tryd.func13, Tryd.ntmps13
    go_wp2_with fail
    exact bodyPost_ret (v := .tuple #[momV 0 0 0 0 0 0, .int .i64 20]) (by simp [results, Tryd.results13, go_sem]) rfl ⟨rfl, (Below.refl _ _).alloc (Nat.le_refl _) _⟩
  · have h0 : 0 ≤ t := by omega
    have hg : 7289654400 ≤ t := by omega
    have hn' : decide (t < 0) = false := by simpa using h0
    clear h
    by_cases h2 : 200000 < t / 86400
    · go_enter Tryd.func13, Tryd.ntmps13
      go_wp2_with fail
      exact bodyPost_ret (v := .tuple #[momV 0 0 0 0 0 0, .int .i64 20]) (by simp [results, Tryd.results13, go_sem]) rfl ⟨rfl, (Below.refl _ _).alloc (Nat.le_refl _) _⟩
    · have h3 : decide (200000 < t / 86400) = false := by simpa using h2
      have l3 := fun w => rDate_no (t / 86400) w (.inr (by omega)) (by omega)
      go_enter Tryd.func13, Tryd.ntmps13
      go_wp2_with fail
      refine (l3 _).mono ?_
      rintro e w1 ⟨rfl, hb1⟩
      have hz1 := hb1.size
      simp at hz1
      have hz2 : w.heap.size < w1.heap.size := by omega
      obtain ⟨hc, hf⟩ : (∀ b o, b < w.heap.size + 1 → w1.cell? ⟨b, o, none⟩ = (w.alloc (.cells #[.int .i64 0, .int .i64 0, .int .i64 0, .int .i64 0, .int .i64 0, .int .i64 0] 37)).cell? ⟨b, o, none⟩) ∧ (∀ b o, b < w.heap.size + 1 → w1.frozen? ⟨b, o, none⟩ = (w.alloc (.cells #[.int .i64 0, .int .i64 0, .int .i64 0, .int .i64 0, .int .i64 0, .int .i64 0] 37)).frozen? ⟨b, o, none⟩) :=
        ⟨fun b o h => hb1.cell (p := ⟨b, o, none⟩) (by simpa using h), fun b o h => hb1.frozen (p := ⟨b, o, none⟩) (by simpa using h)⟩
      go_wp2_with fail
      refine bodyPost_ret (v := .tuple #[momV 0 0 0 0 0 0, .int .i64 20]) (by simp [results, Tryd.results13, go_sem, hc, hz2]) rfl ⟨rfl, ?_⟩
      have hB := ((Below.refl _ w).alloc (Nat.le_refl _) (.cells #[.int .i64 0, .int .i64 0, .int .i64 0, .int .i64 0, .int .i64 0, .int .i64 0] 37)).trans (hb1.mono (by simp))
      exact ((((((hB.setCell (p := ⟨w.heap.size, 0, none⟩) (by simp) _).setCell (p := ⟨w.heap.size, 1, none⟩) (by simp) _).setCell (p := ⟨w.heap.size, 2, none⟩) (by simp) _).setCell (p := ⟨w.heap.size, 3, none⟩) (by simp) _).setCell (p := ⟨w.heap.size, 4, none⟩) (by simp) _).setCell (p := ⟨w.heap.size, 5, none⟩) (by simp) _).alloc (by simp; omega) _
set_option maxRecDepth 100000 in
set_option maxHeartbeats 1000000 in
theorem rMoment_yes (t : Int) (w : World) (h0 : 0 ≤ t) (h1 : t < 7289654400) :
    Calls Tryd.prog 13 #[.int .i64 t] w fun e w' => e = .returned (.tuple #[momV (Civ.dY (t / 86400)) (Civ.dM (t / 86400)) (Civ.dD (t / 86400)) (mH t) (mMi t) (mS t), .int .i64 0]) ∧ Below w.heap.size w w' := by
  have l3 := fun w => rDate_yes (t / 86400) w (by omega) (by omega)
  obtain ⟨y, hy⟩ : ∃ y, Civ.dY (t / 86400) = y := ⟨_, rfl⟩
  obtain ⟨m, hm⟩ : ∃ m, Civ.dM (t / 86400) = m := ⟨_, rfl⟩
  obtain ⟨d, hd⟩ : ∃ d, Civ.dD (t / 86400) = d := ⟨_, rfl⟩
  rw [hy, hm, hd] at l3 ⊢
  clear hy hm hd
  have hg : decide (t < 0) = false := by simpa using h0
  have hg' : decide (200000 < t / 86400) = false := by simp; omega
  go_enter Tryd.func13, Tryd.ntmps13
  go_wp2_with fail
  refine (l3 _).mono ?_
  rintro e w1 ⟨rfl, hb1⟩
  have hz1 := hb1.size
  simp at hz1
  have hz2 : w.heap.size < w1.heap.size := by omega
  obtain ⟨hc, hf⟩ : (∀ b o, b < w.heap.size + 1 → w1.cell? ⟨b, o, none⟩ = (w.alloc (.cells #[.int .i64 0, .int .i64 0, .int .i64 0, .int .i64 0, .int .i64 0, .int .i64 0] 37)).cell? ⟨b, o, none⟩) ∧ (∀ b o, b < w.heap.size + 1 → w1.frozen? ⟨b, o, none⟩ = (w.alloc (.cells #[.int .i64 0, .int .i64 0, .int .i64 0, .int .i64 0, .int .i64 0, .int .i64 0] 37)).frozen? ⟨b, o, none⟩) :=
    ⟨fun b o h => hb1.cell (p := ⟨b, o, none⟩) (by simpa using h), fun b o h => hb1.frozen (p := ⟨b, o, none⟩) (by simpa using h)⟩
  go_wp2_with fail
  refine bodyPost_ret (v := .tuple #[momV y m d (mH t) (mMi t) (mS t), .int .i64 0]) (by simp [results, Tryd.results13, go_sem, hc, hz2, mH, mMi, mS]) rfl ⟨rfl, ?_⟩
  have hB := ((Below.refl _ w).alloc (Nat.le_refl _) (.cells #[.int .i64 0, .int .i64 0, .int .i64 0, .int .i64 0, .int .i64 0, .int .i64 0] 37)).trans (hb1.mono (by simp))
  exact ((((((hB.setCell (p := ⟨w.heap.size, 0, none⟩) (by simp) _).setCell (p := ⟨w.heap.size, 1, none⟩) (by simp) _).setCell (p := ⟨w.heap.size, 2, none⟩) (by simp) _).setCell (p := ⟨w.heap.size, 3, none⟩) (by simp) _).setCell (p := ⟨w.heap.size, 4, none⟩) (by simp) _).setCell (p := ⟨w.heap.size, 5, none⟩) (by simp) _).alloc (by simp; omega) _
end Go.Proofs.YtfjbonhlokbhpaaDoor
