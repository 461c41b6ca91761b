/- The contract of package calendar's parsePart. -/
import Derived.Test.YteaaknbininehabDoorP1
namespace Go.Proofs.YteaaknbininehabDoor
open Go.RowKit
set_option maxRecDepth 100000 in
set_option maxHeartbeats 2000000 in
theorem parsePart_any (s : ByteArray) (lo hi : Int) (w : World) (hg : GlP w) (hs : s.size ≤ 100000) :
    Calls Tryd.prog 71 #[.string s, .agg #[.int .i64 lo, .int .i64 hi]] w fun e w' => e = .returned (.tuple #[aggP (pPart s lo hi).1, .bool (pPart s lo hi).2]) ∧ Below w.heap.size w w' := by
  have hB := below_two (w := w) (.cells #[.int .i64 lo, .int .i64 hi] 74) (.cells #[.bool false, .int .i64 0, .int .i64 0, .int .i64 0] 88)
  have hal := cutA_le s [47]
  obtain ⟨a, ha⟩ : ∃ a, cutA s [47] = a := ⟨_, rfl⟩
  obtain ⟨z, hz⟩ : ∃ z, cutZ s [47] = z := ⟨_, rfl⟩
  obtain ⟨r, hr⟩ : ∃ r, cutF s [47] = r := ⟨_, rfl⟩
  obtain ⟨q, hq⟩ : ∃ q, pRow a r lo hi = q := ⟨_, rfl⟩
  obtain ⟨⟨qa, qf, qt, qs⟩, qok⟩ := q
  rw [ha] at hal
  have hR := fun w hg => parseRow_any a r lo hi w hg (by omega)
  simp only [hq, aggP] at hR
  have hP : Hid (pPart s lo hi = if qok = true ∧ r = true then ((qa, qf, qt, (pNum z).1), (pNum z).2 && decide (0 < (pNum z).1)) else ((qa, qf, qt, qs), qok)) := by show _ = _; unfold pPart; rw [ha, hz, hr, hq]
  cases qok
  · cases r
    all_goals
      go_enter Tryd.func71, Tryd.ntmps71
      go_wp2_with fail
      refine (cut_any s _ _ (hg.below hB) hs).mono ?_
      simp only [ha, hz, hr]
      rintro e w1 ⟨rfl, hb1⟩
      obtain ⟨wl, ca, cb, cf⟩ := two_kept hb1
      have q0 := ca 0 _ rfl
      have q1 := ca 1 _ rfl
      have hB2 := hB.trans (hb1.mono (by simp; omega))
      have hg1 := hg.below hB2
      go_wp2_with fail
      refine (hR _ hg1).mono ?_
      rintro e w2 ⟨rfl, hb2⟩
      have wz := hb2.size
      have p0 := (hb2.cell (p := ⟨w.heap.size + 1, 0, none⟩) wl).trans (cb 0 _ rfl)
      have p1 := (hb2.cell (p := ⟨w.heap.size + 1, 1, none⟩) wl).trans (cb 1 _ rfl)
      have p2 := (hb2.cell (p := ⟨w.heap.size + 1, 2, none⟩) wl).trans (cb 2 _ rfl)
      have p3 := (hb2.cell (p := ⟨w.heap.size + 1, 3, none⟩) wl).trans (cb 3 _ rfl)
      have g0 := (hb2.frozen (p := ⟨w.heap.size + 1, 0, none⟩) wl).trans (cf 0)
      have g1 := (hb2.frozen (p := ⟨w.heap.size + 1, 1, none⟩) wl).trans (cf 1)
      have g2 := (hb2.frozen (p := ⟨w.heap.size + 1, 2, none⟩) wl).trans (cf 2)
      have g3 := (hb2.frozen (p := ⟨w.heap.size + 1, 3, none⟩) wl).trans (cf 3)
      have wl2 : w.heap.size + 1 < w2.heap.size := by omega
      have hB3 := hB2.trans (hb2.mono (by omega))
      clear ca cb cf q0 q1
      go_wp2_with fail
      refine bodyPost_ret (v := .tuple #[.agg #[.bool qa, .int .i64 qf, .int .i64 qt, .int .i64 qs], .bool false]) (by simp [results, Tryd.results71, go_sem, p0, p1, p2, p3, wl2]) rfl ⟨by rw [hP.out]; rfl, ?_⟩
      exact (below_set4 (b := w.heap.size + 1) hB3 (by omega) _ _ _ _).alloc (by simp; omega) _
  · cases r
    · go_enter Tryd.func71, Tryd.ntmps71
      go_wp2_with fail
      refine (cut_any s _ _ (hg.below hB) hs).mono ?_
      simp only [ha, hz, hr]
      rintro e w1 ⟨rfl, hb1⟩
      obtain ⟨wl, ca, cb, cf⟩ := two_kept hb1
      have q0 := ca 0 _ rfl
      have q1 := ca 1 _ rfl
      have hB2 := hB.trans (hb1.mono (by simp; omega))
      have hg1 := hg.below hB2
      go_wp2_with fail
      refine (hR _ hg1).mono ?_
      rintro e w2 ⟨rfl, hb2⟩
      have wz := hb2.size
      have p0 := (hb2.cell (p := ⟨w.heap.size + 1, 0, none⟩) wl).trans (cb 0 _ rfl)
      have p1 := (hb2.cell (p := ⟨w.heap.size + 1, 1, none⟩) wl).trans (cb 1 _ rfl)
      have p2 := (hb2.cell (p := ⟨w.heap.size + 1, 2, none⟩) wl).trans (cb 2 _ rfl)
      have p3 := (hb2.cell (p := ⟨w.heap.size + 1, 3, none⟩) wl).trans (cb 3 _ rfl)
      have g0 := (hb2.frozen (p := ⟨w.heap.size + 1, 0, none⟩) wl).trans (cf 0)
      have g1 := (hb2.frozen (p := ⟨w.heap.size + 1, 1, none⟩) wl).trans (cf 1)
      have g2 := (hb2.frozen (p := ⟨w.heap.size + 1, 2, none⟩) wl).trans (cf 2)
      have g3 := (hb2.frozen (p := ⟨w.heap.size + 1, 3, none⟩) wl).trans (cf 3)
      have wl2 : w.heap.size + 1 < w2.heap.size := by omega
      have hB3 := hB2.trans (hb2.mono (by omega))
      clear ca cb cf q0 q1
      go_wp2_with fail
      refine bodyPost_ret (v := .tuple #[.agg #[.bool qa, .int .i64 qf, .int .i64 qt, .int .i64 qs], .bool true]) (by simp [results, Tryd.results71, go_sem, p0, p1, p2, p3, wl2]) rfl ⟨by rw [hP.out]; rfl, ?_⟩
      exact (below_set4 (b := w.heap.size + 1) hB3 (by omega) _ _ _ _).alloc (by simp; omega) _
    · cases hok : (pNum z).2
      · go_enter Tryd.func71, Tryd.ntmps71
        go_wp2_with fail
        refine (cut_any s _ _ (hg.below hB) hs).mono ?_
        simp only [ha, hz, hr]
        rintro e w1 ⟨rfl, hb1⟩
        obtain ⟨wl, ca, cb, cf⟩ := two_kept hb1
        have q0 := ca 0 _ rfl
        have q1 := ca 1 _ rfl
        have hB2 := hB.trans (hb1.mono (by simp; omega))
        have hg1 := hg.below hB2
        go_wp2_with fail
        refine (hR _ hg1).mono ?_
        rintro e w2 ⟨rfl, hb2⟩
        have wz := hb2.size
        have p0 := (hb2.cell (p := ⟨w.heap.size + 1, 0, none⟩) wl).trans (cb 0 _ rfl)
        have p1 := (hb2.cell (p := ⟨w.heap.size + 1, 1, none⟩) wl).trans (cb 1 _ rfl)
        have p2 := (hb2.cell (p := ⟨w.heap.size + 1, 2, none⟩) wl).trans (cb 2 _ rfl)
        have p3 := (hb2.cell (p := ⟨w.heap.size + 1, 3, none⟩) wl).trans (cb 3 _ rfl)
        have g0 := (hb2.frozen (p := ⟨w.heap.size + 1, 0, none⟩) wl).trans (cf 0)
        have g1 := (hb2.frozen (p := ⟨w.heap.size + 1, 1, none⟩) wl).trans (cf 1)
        have g2 := (hb2.frozen (p := ⟨w.heap.size + 1, 2, none⟩) wl).trans (cf 2)
        have g3 := (hb2.frozen (p := ⟨w.heap.size + 1, 3, none⟩) wl).trans (cf 3)
        have wl2 : w.heap.size + 1 < w2.heap.size := by omega
        have hB3 := hB2.trans (hb2.mono (by omega))
        clear ca cb cf q0 q1
        go_wp2_with fail
        refine (parseNumber_any z _).mono ?_
        rintro e w3 ⟨rfl, rfl⟩
        go_wp2_with fail
        go_region
        all_goals go_wp2_with fail
        all_goals
          refine bodyPost_ret (v := .tuple #[.agg #[.bool qa, .int .i64 qf, .int .i64 qt, .int .i64 (pNum z).1], .bool ((pNum z).2 && decide (0 < (pNum z).1))]) (by simp [results, Tryd.results71, go_sem, p0, p1, p2, p3, wl2, hok]) rfl ⟨by rw [hP.out]; rfl, ?_⟩
          exact ((below_set4 (b := w.heap.size + 1) hB3 (by omega) _ _ _ _).alloc (by simp; omega) _).drew
      · go_enter Tryd.func71, Tryd.ntmps71
        go_wp2_with fail
        refine (cut_any s _ _ (hg.below hB) hs).mono ?_
        simp only [ha, hz, hr]
        rintro e w1 ⟨rfl, hb1⟩
        obtain ⟨wl, ca, cb, cf⟩ := two_kept hb1
        have q0 := ca 0 _ rfl
        have q1 := ca 1 _ rfl
        have hB2 := hB.trans (hb1.mono (by simp; omega))
        have hg1 := hg.below hB2
        go_wp2_with fail
        refine (hR _ hg1).mono ?_
        rintro e w2 ⟨rfl, hb2⟩
        have wz := hb2.size
        have p0 := (hb2.cell (p := ⟨w.heap.size + 1, 0, none⟩) wl).trans (cb 0 _ rfl)
        have p1 := (hb2.cell (p := ⟨w.heap.size + 1, 1, none⟩) wl).trans (cb 1 _ rfl)
        have p2 := (hb2.cell (p := ⟨w.heap.size + 1, 2, none⟩) wl).trans (cb 2 _ rfl)
        have p3 := (hb2.cell (p := ⟨w.heap.size + 1, 3, none⟩) wl).trans (cb 3 _ rfl)
        have g0 := (hb2.frozen (p := ⟨w.heap.size + 1, 0, none⟩) wl).trans (cf 0)
        have g1 := (hb2.frozen (p := ⟨w.heap.size + 1, 1, none⟩) wl).trans (cf 1)
        have g2 := (hb2.frozen (p := ⟨w.heap.size + 1, 2, none⟩) wl).trans (cf 2)
        have g3 := (hb2.frozen (p := ⟨w.heap.size + 1, 3, none⟩) wl).trans (cf 3)
        have wl2 : w.heap.size + 1 < w2.heap.size := by omega
        have hB3 := hB2.trans (hb2.mono (by omega))
        clear ca cb cf q0 q1
        go_wp2_with fail
        refine (parseNumber_any z _).mono ?_
        rintro e w3 ⟨rfl, rfl⟩
        go_wp2_with fail
        go_region
        all_goals go_wp2_with fail
        all_goals
          refine bodyPost_ret (v := .tuple #[.agg #[.bool qa, .int .i64 qf, .int .i64 qt, .int .i64 (pNum z).1], .bool ((pNum z).2 && decide (0 < (pNum z).1))]) (by simp [results, Tryd.results71, go_sem, p0, p1, p2, p3, wl2, hok]) rfl ⟨by rw [hP.out]; rfl, ?_⟩
          exact ((below_set4 (b := w.heap.size + 1) hB3 (by omega) _ _ _ _).alloc (by simp; omega) _).drew
set_option maxRecDepth 100000 in
set_option maxHeartbeats 2000000 in
theorem parseNumbers1_any (s : ByteArray) (lo hi : Int) (b : Nat) (w : World) (hg : GlP w) (hs : s.size ≤ 100000) (b0 : w.cell? ⟨b, 0, none⟩ = some (.int .i64 lo)) (b1 : w.cell? ⟨b, 1, none⟩ = some (.int .i64 hi)) :
    Calls Tryd.prog 70 #[.string s, .pointer (some ⟨b, 0, none⟩)] w fun e w' => e = .returned (.tuple #[aggP (pPart s lo hi).1, .bool (pPart s lo hi).2]) ∧ Below w.heap.size w w' := by
  have hB : Below w.heap.size w (w.alloc (.cells #[.bool false, .int .i64 0, .int .i64 0, .int .i64 0] 88)) := (Below.refl _ _).alloc (Nat.le_refl _) _
  have bl := cell_lt b0
  simp only at bl
  obtain ⟨⟨⟨qa, qf, qt, qs⟩, qok⟩, hq⟩ : ∃ q, pPart s lo hi = q := ⟨_, rfl⟩
  have hR := fun w hg => parsePart_any s lo hi w hg hs
  simp only [hq, aggP] at hR ⊢
  go_enter Tryd.func70, Tryd.ntmps70
  go_wp2_with fail
  refine (hR _ (hg.below hB)).mono ?_
  rintro e w1 ⟨rfl, hb1⟩
  obtain ⟨wl, cb, cf⟩ := one_kept hb1
  have k0 := cb 0 _ rfl
  have k1 := cb 1 _ rfl
  have k2 := cb 2 _ rfl
  have k3 := cb 3 _ rfl
  have f0 := cf 0
  have f1 := cf 1
  have f2 := cf 2
  have f3 := cf 3
  have hB2 := hB.trans (hb1.mono (by simp))
  clear cb cf
  go_wp2_with fail
  refine bodyPost_ret (v := .tuple #[.agg #[.bool qa, .int .i64 qf, .int .i64 qt, .int .i64 qs], .bool qok]) (by simp [results, Tryd.results70, go_sem, k0, k1, k2, k3]) rfl ⟨rfl, ?_⟩
  exact below_set4 hB2 (by omega) _ _ _ _
end Go.Proofs.YteaaknbininehabDoor
