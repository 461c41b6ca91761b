/- Contracts of package calendar's parseList. -/
import Derived.Test.YteaaknbininehabDoorP3
namespace Go.Proofs.YteaaknbininehabDoor
open Go.RowKit
theorem info84 : (Tryd.prog.info? 88).map (fun i => (i.zero, i.size, i.bytes)) = some (some (.agg #[.bool false, .int .i64 0, .int .i64 0, .int .i64 0]), 4, 32) := by kernel_rfl
theorem grown_of_below {w w' : World} (h : Below w.heap.size w w') : w.grownBy w' none := ⟨h.os, h.tape, h.output, h.size, fun k hk _ => h.block k hk⟩
theorem four_new (w : World) (a b c d : Value) (t : TypeId) : ∀ j u, [a, b, c, d][j]? = some u → (w.alloc (.cells #[a, b, c, d] t)).cell? ((⟨w.heap.size, 0, none⟩ : Addr).add j) = some u := by
  intro j u hj
  match j, hj with
  | 0, hj => simp at hj; subst hj; simp [Addr.add]
  | 1, hj => simp at hj; subst hj; simp [Addr.add]
  | 2, hj => simp at hj; subst hj; simp [Addr.add]
  | 3, hj => simp at hj; subst hj; simp [Addr.add]
set_option maxRecDepth 100000 in
set_option maxHeartbeats 4000000 in
theorem listW_any (s : ByteArray) (w : World) (hg : GlP w) (hs : s.size ≤ 100000) :
    Calls Tryd.prog 26 #[.string s, .func (.func 27) #[] #[]] w fun e w' => ∃ sl : Sl, e = .returned (.tuple #[slv sl, .bool (pL (pWds) (splitT s (str1 44) 12)).isSome]) ∧ Below w.heap.size w w' ∧ Pin (fun k => k < w.heap.size) w' (slv sl) ((pL (pWds) (splitT s (str1 44) 12)).getD []) := by
  obtain ⟨i0, hinf, hz0, hz1, hz2⟩ := info_parts info84
  have hSp := split_any s (str1 44) 12 w hg hs (by decide) (by decide)
  have hsz : ∀ x ∈ splitT s (str1 44) 12, x.size ≤ 100000 := fun x hx => Nat.le_trans (splitB_le _ _ _ x hx) hs
  have hln : (splitT s (str1 44) 12).length ≤ 13 := by
    have := Lib.splitB_length_le (str1 44) 0 (min (12 + 1) (s.size + 1) - 1) s
    unfold splitT
    omega
  obtain ⟨L, hL⟩ : ∃ L, splitT s (str1 44) 12 = L := ⟨_, rfl⟩
  rw [hL] at hSp hsz hln
  rw [hL]
  clear hL
  go_enter Tryd.func26, Tryd.ntmps26
  go_wp2_with fail
  refine hSp.mono ?_
  rintro e w1 ⟨cap, rfl, hcap, hb1, hcells⟩
  have hw1 := hb1.size
  have hg1 := hg.below hb1
  obtain ⟨wm, hmk, hom, hgm⟩ := run_make_own (P := Tryd.prog) w1 w1.heap.size 24 88 i0 _ 4 Tryd.underlying24 hinf hz0 hz1 .i64 .i64 12 (by rw [hz2]; decide) (by unfold maxLen; decide) (Nat.le_refl _)
  have hmk' : (Instr.makeSlice 24 (.int .i64 0) (.int .i64 12)).run Tryd.prog w1 = .ok (.slice (some ⟨w1.heap.size, 0, none⟩) 0 12) wm := hmk
  clear hmk
  go_wp2_with fail
  have hbm : Below w1.heap.size w1 wm := ⟨hgm.os, hgm.tape, hgm.output, hgm.size, fun k hk => hgm.block k hk (by simp)⟩
  have hI : Hid (∀ x ∈ L, x.size ≤ 100000) := hsz
  clear hmk' hSp hsz
  go_loopw [7, 17] (fun v i wr => ∃ (k g cp : Nat) (ps : List Part), k ≤ L.length ∧ i = .int .i64 k ∧ v = .slice (some ⟨g, 0, none⟩) k cp ∧ ps.length = k ∧ Hid (pL (pWds) (L.take k) = some ps) ∧ wr.ownsRow w1.heap.size 88 4 (.slice (some ⟨g, 0, none⟩) k cp) k (cellsP ps) ∧ Below w1.heap.size w1 wr) (fun _ i _ => L.length - (intOf i).toNat)
  case atStart => exact ⟨0, w1.heap.size, 12, [], by omega, rfl, rfl, rfl, rfl, hom, hbm⟩
  case round =>
    obtain ⟨k, g, cp, ps, hk, rfl, rfl, hpl, hps, hown, hb⟩ := hrel
    have hbw : Below w.heap.size w wr := hb1.trans (hb.mono hw1)
    have hgr := hg.below hbw
    by_cases hkl : k < L.length
    · obtain ⟨x, hx⟩ : ∃ x, L[k]? = some x := ⟨_, List.getElem?_eq_getElem hkl⟩
      have hxs := hI.out x (List.mem_of_getElem? hx)
      have c0 := hcells k x hx
      have wl : w.heap.size < w1.heap.size := cell_lt c0
      have c1 : wr.cell? ⟨w.heap.size, k, none⟩ = some (.string x) := (hb.cell (p := ⟨w.heap.size, k, none⟩) wl).trans c0
      have htk : Hid (L.take (k + 1) = L.take k ++ [x]) := by
        show _ = _
        rw [List.take_add_one, hx]; rfl
      have hsp : Hid (L = L.take k ++ x :: L.drop (k + 1)) := by
        show _ = _
        have := List.getElem?_eq_some_iff.1 hx
        obtain ⟨h1, h2⟩ := this
        rw [← h2, ← List.drop_eq_getElem_cons h1, List.take_append_drop]
      go_wp2_with fail
      refine (parseWeekdays_any x _ hgr hxs).mono ?_
      obtain ⟨⟨⟨qa, qf, qt, qs⟩, qok⟩, hq⟩ : ∃ q, pWds x = q := ⟨_, rfl⟩
      simp only [hq, aggP]
      rintro e w2 ⟨rfl, hb2⟩
      have hb3 : Below w1.heap.size w1 w2 := hb.trans (hb2.mono hb.size)
      have hown2 := hown.kept (grown_of_below hb2) (.inr (by simp [Value.ownBlock]))
      have hz3 := hb3.size
      cases qok
      · have hno : Hid (pL (pWds) L = none) := by
          show _ = _
          rw [hsp.out]
          exact pL_no _ _ _ _ (by show (pWds x).2 = false; rw [hq])
        go_wp2_with fail
        go_ret2
        refine ⟨(none, 0, 0), by rw [hno.out]; rfl, (hb1.trans (hb3.mono hw1)).alloc (by omega) _, ?_⟩
        rw [hno.out]
        exact ⟨none, 0, rfl, by simp, fun i q h => by simp at h⟩
      · have hyes : Hid (pL (pWds) (L.take (k + 1)) = some (ps ++ [(qa, qf, qt, qs)])) := by
          show _ = _
          rw [htk.out]
          have := pL_snoc (pWds) (L.take k) x ps hps.out (by show (pWds x).2 = true; rw [hq])
          rw [this]
          show some (ps ++ [(pWds x).1]) = _
          rw [hq]
        have hr0 := hown2.alloc (.cells #[.bool qa, .int .i64 qf, .int .i64 qt, .int .i64 qs] 88)
        have hr1 := hr0.alloc (.cells #[.bool qa, .int .i64 qf, .int .i64 qt, .int .i64 qs] 88)
        go_wp2_with (at_builtin; refine wpList_append_own_at _ rfl _ _ 24 rfl w1.heap.size 88 i0 (.agg #[.bool false, .int .i64 0, .int .i64 0, .int .i64 0]) 4 32 Tryd.underlying24 hinf hz0 hz1 hz2 rfl (by decide) _ _ _ rfl hr1 ⟨w2.heap.size + 1, 0, none⟩ 1 1 [.bool qa, .int .i64 qf, .int .i64 qt, .int .i64 qs] rfl rfl (by simpa using four_new (w2.alloc (.cells #[.bool qa, .int .i64 qf, .int .i64 qt, .int .i64 qs] 88)) (.bool qa) (.int .i64 qf) (.int .i64 qt) (.int .i64 qs) 88) (fun x hx => by simp at hx; rcases hx with rfl | rfl | rfl | rfl <;> rfl) (by unfold maxLen; omega) (by omega) (by simp; omega) ?_; intro v' w3 hown' hgrow _ _; obtain ⟨g', cap', rfl⟩ := ownsRow_succ hown')
        have hb4 : Below w1.heap.size w1 w3 := ((hb3.alloc (by omega) _).alloc (by simp; omega) _).grown hgrow (by simp; omega) (fun k e => (hr1.lt k e).1)
        exact ⟨⟨k + 1, g', cap', ps ++ [(qa, qf, qt, qs)], by omega, by go_num, rfl, by simp [hpl], hyes.out, by rw [cellsP_snoc]; exact hown', hb4⟩, by simp [intOf]; omega⟩
    · obtain rfl : k = L.length := by omega
      have hfin : Hid (pL (pWds) L = some ps) := by
        show _ = _
        have := hps.out
        rwa [List.take_length] at this
      go_wp2_with fail
      go_ret2
      refine ⟨(some ⟨g, 0, none⟩, L.length, cp), by rw [hfin.out]; rfl, hbw, ?_⟩
      rw [hfin.out]
      refine ⟨some ⟨g, 0, none⟩, cp, by rw [← hpl]; rfl, by simp only [Option.getD_some]; omega, fun i q h => ⟨g, 0, rfl, ?_, ?_⟩⟩
      · have := (hown.lt g rfl).1
        omega
      · have hlt : i < ps.length := (List.getElem?_eq_some_iff.1 h).1
        obtain ⟨d0, d1, d2, d3⟩ := cellsP_at ps i q h
        rw [Nat.zero_add]
        exact ⟨(hown.cellAt _ (by omega)).trans d0, (hown.cellAt _ (by omega)).trans d1, (hown.cellAt _ (by omega)).trans d2, (hown.cellAt _ (by omega)).trans d3⟩
set_option maxRecDepth 100000 in
set_option maxHeartbeats 4000000 in
theorem listN_any (s : ByteArray) (lo hi : Int) (b : Nat) (w : World) (hg : GlP w) (hs : s.size ≤ 100000) (b0 : w.cell? ⟨b, 0, none⟩ = some (.int .i64 lo)) (b1 : w.cell? ⟨b, 1, none⟩ = some (.int .i64 hi)) :
    Calls Tryd.prog 26 #[.string s, .func (.func 70) #[] #[.pointer (some ⟨b, 0, none⟩)]] w fun e w' => ∃ sl : Sl, e = .returned (.tuple #[slv sl, .bool (pL (fun t => pPart t lo hi) (splitT s (str1 44) 12)).isSome]) ∧ Below w.heap.size w w' ∧ Pin (fun k => k < w.heap.size) w' (slv sl) ((pL (fun t => pPart t lo hi) (splitT s (str1 44) 12)).getD []) := by
  obtain ⟨i0, hinf, hz0, hz1, hz2⟩ := info_parts info84
  have hSp := split_any s (str1 44) 12 w hg hs (by decide) (by decide)
  have hsz : ∀ x ∈ splitT s (str1 44) 12, x.size ≤ 100000 := fun x hx => Nat.le_trans (splitB_le _ _ _ x hx) hs
  have hln : (splitT s (str1 44) 12).length ≤ 13 := by
    have := Lib.splitB_length_le (str1 44) 0 (min (12 + 1) (s.size + 1) - 1) s
    unfold splitT
    omega
  obtain ⟨L, hL⟩ : ∃ L, splitT s (str1 44) 12 = L := ⟨_, rfl⟩
  rw [hL] at hSp hsz hln
  rw [hL]
  clear hL
  go_enter Tryd.func26, Tryd.ntmps26
  go_wp2_with fail
  refine hSp.mono ?_
  rintro e w1 ⟨cap, rfl, hcap, hb1, hcells⟩
  have hw1 := hb1.size
  have hg1 := hg.below hb1
  obtain ⟨wm, hmk, hom, hgm⟩ := run_make_own (P := Tryd.prog) w1 w1.heap.size 24 88 i0 _ 4 Tryd.underlying24 hinf hz0 hz1 .i64 .i64 12 (by rw [hz2]; decide) (by unfold maxLen; decide) (Nat.le_refl _)
  have hmk' : (Instr.makeSlice 24 (.int .i64 0) (.int .i64 12)).run Tryd.prog w1 = .ok (.slice (some ⟨w1.heap.size, 0, none⟩) 0 12) wm := hmk
  clear hmk
  go_wp2_with fail
  have hbm : Below w1.heap.size w1 wm := ⟨hgm.os, hgm.tape, hgm.output, hgm.size, fun k hk => hgm.block k hk (by simp)⟩
  have hI : Hid (∀ x ∈ L, x.size ≤ 100000) := hsz
  clear hmk' hSp hsz
  go_loopw [7, 17] (fun v i wr => ∃ (k g cp : Nat) (ps : List Part), k ≤ L.length ∧ i = .int .i64 k ∧ v = .slice (some ⟨g, 0, none⟩) k cp ∧ ps.length = k ∧ Hid (pL (fun t => pPart t lo hi) (L.take k) = some ps) ∧ wr.ownsRow w1.heap.size 88 4 (.slice (some ⟨g, 0, none⟩) k cp) k (cellsP ps) ∧ Below w1.heap.size w1 wr) (fun _ i _ => L.length - (intOf i).toNat)
  case atStart => exact ⟨0, w1.heap.size, 12, [], by omega, rfl, rfl, rfl, rfl, hom, hbm⟩
  case round =>
    obtain ⟨k, g, cp, ps, hk, rfl, rfl, hpl, hps, hown, hb⟩ := hrel
    have hbw : Below w.heap.size w wr := hb1.trans (hb.mono hw1)
    have hgr := hg.below hbw
    by_cases hkl : k < L.length
    · obtain ⟨x, hx⟩ : ∃ x, L[k]? = some x := ⟨_, List.getElem?_eq_getElem hkl⟩
      have hxs := hI.out x (List.mem_of_getElem? hx)
      have c0 := hcells k x hx
      have wl : w.heap.size < w1.heap.size := cell_lt c0
      have c1 : wr.cell? ⟨w.heap.size, k, none⟩ = some (.string x) := (hb.cell (p := ⟨w.heap.size, k, none⟩) wl).trans c0
      have htk : Hid (L.take (k + 1) = L.take k ++ [x]) := by
        show _ = _
        rw [List.take_add_one, hx]; rfl
      have hsp : Hid (L = L.take k ++ x :: L.drop (k + 1)) := by
        show _ = _
        have := List.getElem?_eq_some_iff.1 hx
        obtain ⟨h1, h2⟩ := this
        rw [← h2, ← List.drop_eq_getElem_cons h1, List.take_append_drop]
      go_wp2_with fail
      refine (parseNumbers1_any x lo hi b _ hgr hxs ((hbw.cell (p := ⟨b, 0, none⟩) (cell_lt b0)).trans b0) ((hbw.cell (p := ⟨b, 1, none⟩) (cell_lt b1)).trans b1)).mono ?_
      obtain ⟨⟨⟨qa, qf, qt, qs⟩, qok⟩, hq⟩ : ∃ q, pPart x lo hi = q := ⟨_, rfl⟩
      simp only [hq, aggP]
      rintro e w2 ⟨rfl, hb2⟩
      have hb3 : Below w1.heap.size w1 w2 := hb.trans (hb2.mono hb.size)
      have hown2 := hown.kept (grown_of_below hb2) (.inr (by simp [Value.ownBlock]))
      have hz3 := hb3.size
      cases qok
      · have hno : Hid (pL (fun t => pPart t lo hi) L = none) := by
          show _ = _
          rw [hsp.out]
          exact pL_no _ _ _ _ (by show (pPart x lo hi).2 = false; rw [hq])
        go_wp2_with fail
        go_ret2
        refine ⟨(none, 0, 0), by rw [hno.out]; rfl, (hb1.trans (hb3.mono hw1)).alloc (by omega) _, ?_⟩
        rw [hno.out]
        exact ⟨none, 0, rfl, by simp, fun i q h => by simp at h⟩
      · have hyes : Hid (pL (fun t => pPart t lo hi) (L.take (k + 1)) = some (ps ++ [(qa, qf, qt, qs)])) := by
          show _ = _
          rw [htk.out]
          have := pL_snoc (fun t => pPart t lo hi) (L.take k) x ps hps.out (by show (pPart x lo hi).2 = true; rw [hq])
          rw [this]
          show some (ps ++ [(pPart x lo hi).1]) = _
          rw [hq]
        have hr0 := hown2.alloc (.cells #[.bool qa, .int .i64 qf, .int .i64 qt, .int .i64 qs] 88)
        have hr1 := hr0.alloc (.cells #[.bool qa, .int .i64 qf, .int .i64 qt, .int .i64 qs] 88)
        go_wp2_with (at_builtin; refine wpList_append_own_at _ rfl _ _ 24 rfl w1.heap.size 88 i0 (.agg #[.bool false, .int .i64 0, .int .i64 0, .int .i64 0]) 4 32 Tryd.underlying24 hinf hz0 hz1 hz2 rfl (by decide) _ _ _ rfl hr1 ⟨w2.heap.size + 1, 0, none⟩ 1 1 [.bool qa, .int .i64 qf, .int .i64 qt, .int .i64 qs] rfl rfl (by simpa using four_new (w2.alloc (.cells #[.bool qa, .int .i64 qf, .int .i64 qt, .int .i64 qs] 88)) (.bool qa) (.int .i64 qf) (.int .i64 qt) (.int .i64 qs) 88) (fun x hx => by simp at hx; rcases hx with rfl | rfl | rfl | rfl <;> rfl) (by unfold maxLen; omega) (by omega) (by simp; omega) ?_; intro v' w3 hown' hgrow _ _; obtain ⟨g', cap', rfl⟩ := ownsRow_succ hown')
        have hb4 : Below w1.heap.size w1 w3 := ((hb3.alloc (by omega) _).alloc (by simp; omega) _).grown hgrow (by simp; omega) (fun k e => (hr1.lt k e).1)
        exact ⟨⟨k + 1, g', cap', ps ++ [(qa, qf, qt, qs)], by omega, by go_num, rfl, by simp [hpl], hyes.out, by rw [cellsP_snoc]; exact hown', hb4⟩, by simp [intOf]; omega⟩
    · obtain rfl : k = L.length := by omega
      have hfin : Hid (pL (fun t => pPart t lo hi) L = some ps) := by
        show _ = _
        have := hps.out
        rwa [List.take_length] at this
      go_wp2_with fail
      go_ret2
      refine ⟨(some ⟨g, 0, none⟩, L.length, cp), by rw [hfin.out]; rfl, hbw, ?_⟩
      rw [hfin.out]
      refine ⟨some ⟨g, 0, none⟩, cp, by rw [← hpl]; rfl, by simp only [Option.getD_some]; omega, fun i q h => ⟨g, 0, rfl, ?_, ?_⟩⟩
      · have := (hown.lt g rfl).1
        omega
      · have hlt : i < ps.length := (List.getElem?_eq_some_iff.1 h).1
        obtain ⟨d0, d1, d2, d3⟩ := cellsP_at ps i q h
        rw [Nat.zero_add]
        exact ⟨(hown.cellAt _ (by omega)).trans d0, (hown.cellAt _ (by omega)).trans d1, (hown.cellAt _ (by omega)).trans d2, (hown.cellAt _ (by omega)).trans d3⟩
end Go.Proofs.YteaaknbininehabDoor
