/- The contract of package line's Lines: the walk. -/
import Derived.Test.YtmoafagemdnifaaDoorB6a
import Derived.RangeFuncBox
namespace Go.Proofs.YtmoafagemdnifaaDoor
open Go.RowKit Go.Shelf Lin
attribute [local go_sem] Oper.semAt_some
set_option maxRecDepth 100000 in
set_option maxHeartbeats 4000000 in
theorem lines_short (s : ByteArray) (w : World) (hg : Mx w) (hz : s.size ≤ 4000) : Calls Tryd.prog 24 #[.string s] w (LinesP (lns s.data.toList) w) := by
  have hR : Hid (lns s.data.toList = lnsW (whl 0 0 [] (pieces s.data.toList))) := by show _ = _; unfold lns; rw [size_list, if_neg (by omega)]
  obtain ⟨i0, hinf, hz0, hz1, hz2⟩ := info_parts infoL
  obtain ⟨mx, hmx⟩ := hg
  have lms : 0 < w.heap.size := cell_lt hmx
  obtain ⟨W0, hW0⟩ : ∃ W0, (((w.alloc (.cells #[.slice none 0 0] 56)).alloc (.cells #[.int .i64 0] 3)).alloc (.cells #[.int .i64 0] 26)).alloc (.cells #[.slice none 0 0] 56) = W0 := ⟨_, rfl⟩
  have hs0 : W0.heap.size = w.heap.size + 4 := by rw [← hW0]; simp
  have m0 : ∀ F : Nat → Prop, Mv F w W0 := fun F => by rw [← hW0]; exact (((Mv.alloc _ _ _).trans' (Mv.alloc _ _ _)).trans' (Mv.alloc _ _ _)).trans' (Mv.alloc _ _ _)
  have hb0 : Below w.heap.size w W0 := (m0 (fun _ => False)).toBelow (Nat.le_refl _) (fun _ _ h => h)
  have k0 : Cl w.heap.size (.slice none 0 0) W0 := by
    rw [← hW0]
    exact Cl.mv (E := fun _ => False) (W := w.alloc (.cells #[.slice none 0 0] 56)) ⟨cell_at rfl rfl, World.frozen?_alloc_new _ _ _ _⟩ (((Mv.alloc _ _ _).trans' (Mv.alloc _ _ _)).trans' (Mv.alloc _ _ _)) (fun h => h)
  have k1 : Cl (w.heap.size + 1) (.int .i64 0) W0 := by
    rw [← hW0]
    refine Cl.mv (E := fun _ => False) (W := (w.alloc (.cells #[.slice none 0 0] 56)).alloc (.cells #[.int .i64 0] 3)) ⟨cell_at (by simp) rfl, ?_⟩ ((Mv.alloc _ _ _).trans' (Mv.alloc _ _ _)) (fun h => h)
    rw [← World.size_alloc w (.cells #[.slice none 0 0] 56)]
    exact World.frozen?_alloc_new _ _ _ _
  have k2 : Cl (w.heap.size + 1 + 1) (.int .i64 0) W0 := by
    rw [← hW0]
    refine Cl.mv (E := fun _ => False) (W := ((w.alloc (.cells #[.slice none 0 0] 56)).alloc (.cells #[.int .i64 0] 3)).alloc (.cells #[.int .i64 0] 26)) ⟨cell_at (by simp) rfl, ?_⟩ (Mv.alloc _ _ _) (fun h => h)
    have := World.frozen?_alloc_new ((w.alloc (.cells #[.slice none 0 0] 56)).alloc (.cells #[.int .i64 0] 3)) #[.int .i64 0] 26 0
    simpa using this
  have k3 : Cl (w.heap.size + 1 + 1 + 1) (.slice none 0 0) W0 := by
    rw [← hW0]
    refine ⟨cell_at (by simp) rfl, ?_⟩
    have := World.frozen?_alloc_new (((w.alloc (.cells #[.slice none 0 0] 56)).alloc (.cells #[.int .i64 0] 3)).alloc (.cells #[.int .i64 0] 26)) #[.slice none 0 0] 56 0
    simpa using this
  have kmx := (m0 (fun _ => False)).cell (fun h => h) hmx
  have hzI : decide ((4000 : Int) < (s.size : Int)) = false := by simp; omega
  have hlen := whl_len (pieces s.data.toList) 0 0 []
  have htl := tot_len (pieces s.data.toList)
  rw [tot_pieces, size_list] at htl
  refine (callsIn_wide (n := 5)).1 ?_
  refine callsIn_of_wp_marks Tryd.func24 rfl trivial ?_ rfl
  simp only [Tryd.ntmps24, List.size_toArray, List.length_cons, List.length_nil, Nat.reduceAdd, Nat.reduceSub, Array.replicate_succ, Array.replicate_zero, List.push_toArray, List.append_toArray, List.nil_append, List.cons_append]
  gi_wp2_with (rw [hW0])
  clear hW0
  refine ⟨trivial, (callsIn_wide.2 (whole_any s W0)).mono ?_⟩
  rintro e W1 ⟨rfl, hW1⟩
  have m1 : ∀ F : Nat → Prop, Mv F W0 W1 := fun F => by rw [hW1]; exact Mv.alloc _ _ _
  have hs1 : W1.heap.size = W0.heap.size + 1 := by rw [hW1]; simp
  have cs1 : W1.cell? ⟨W0.heap.size, 0, none⟩ = some (.string s) := by rw [hW1]; exact cell_at rfl rfl
  clear hW1
  have cm1 := (m1 (fun _ => False)).cell (fun h => h) kmx
  obtain ⟨E, hE⟩ : ∃ E : Nat → Prop, ∀ k, E k ↔ ((w.heap.size ≤ k ∧ k < w.heap.size + 4) ∨ (Value.slice none 0 0).ownBlock = some k) := ⟨_, fun _ => Iff.rfl⟩
  have nE : ∀ k, (k < w.heap.size ∨ w.heap.size + 4 ≤ k) → ¬ E k := fun k hk h => by
    rcases (hE k).1 h with q | q
    · omega
    · simp [Value.ownBlock] at q
  have hrow := whole1_row s W0.heap.size mx E W1 hz cs1 (nE _ (.inr (by omega))) cm1 (nE _ (.inl lms))
  rw [hs0] at hrow
  have tI : Ter W1.heap.size (LI w.heap.size (lns s.data.toList)) := LI.ter
  have tX : Ter W1.heap.size (LX w.heap.size (lns s.data.toList)) := LX.ter
  have h0I : LI w.heap.size (lns s.data.toList) (whl 0 0 [] (pieces s.data.toList)) E W1 :=
    ⟨_, [], ⟨hE, by show _ = _; rw [pre_nil]; exact hR.out, by simp; omega, fun p hp => by have := whl_big _ _ _ _ p hp; rw [tot_pieces, size_list] at this; simp only [List.length_nil] at this; omega⟩, ⟨k0.mv (m1 (fun _ => False)) (fun h => h), k1.mv (m1 (fun _ => False)) (fun h => h), k2.mv (m1 (fun _ => False)) (fun h => h), k3.mv (m1 (fun _ => False)) (fun h => h)⟩, World.ownsRow_nil _ _ _ _⟩
  gi_wp2_with fail
  refine loop_out (gf := 46) (lb := #[.pointer (some ⟨w.heap.size + 4, 0, none⟩)]) rfl (enters_of Tryd.func46 (by kernel_rfl) rfl) hrow (fun _ => rfl) _ _ tI tX h0I ?round ?done ?stop
  case round =>
    rintro l1 hl1 ⟨n, x⟩ rest E2 U hi hm hgr hEl hrec
    obtain ⟨X, rfl, hXz, hXe⟩ := letters x
    simp only [encW, hXe]
    clear hXz hXe
    gi_wp2
    refine ⟨⟨Mv.refl _ _, trivial⟩, fun U2 tw => ?_⟩
    obtain ⟨hi2, hm2⟩ := tw.go tI hi (Mv.refl _ _) hm (Nat.le_refl _) (by omega) hEl
    have hi3 := hi2
    obtain ⟨v, acc, ⟨hE2, hacc, hal, hbg⟩, ⟨c0, c1, c2, c3⟩, ho⟩ := hi3
    simp only [List.length_cons] at hal
    have hXb : X.size ≤ 6000 := by have := hbg _ (List.mem_cons_self ..); rwa [size_list] at this
    have hbg' : ∀ p ∈ rest, p.2.length ≤ 6000 := fun p hp => hbg p (List.mem_cons_of_mem _ hp)
    have cmU := hm2.cell (nE _ (.inl lms)) cm1
    have hsU := hm2.size
    clear hi hm hrec tw
    have a0 := c0.c
    have a1 := c0.f
    by_cases hlg : 400 < X.size
    · have hErr : Hid (lns s.data.toList = .error (n, 51)) := by show _ = _; rw [hacc.out]; exact pre_long _ _ _ _ (by rw [size_list]; exact hlg)
      have hlI : (400 : Int) < (X.size : Int) := by omega
      have hst := hi2.stop (Mv.refl _ U2) n 51 hErr
      have l1' := c1.oth (j := w.heap.size) (by omega) (.slice none 0 0)
      have l2' := (c2.oth (j := w.heap.size) (by omega) (.slice none 0 0)).oth (j := w.heap.size + 1) (by omega) (.int .i64 n)
      have a2 := l1'.c
      have a3 := l1'.f
      have a4 := l2'.c
      have a5 := l2'.f
      gi_wp2_with fail
      exact hst
    · have hlI : decide ((400 : Int) < (X.size : Int)) = false := by simp; omega
      have hpa := parse_any X U2 ⟨mx, cmU⟩ (by omega)
      cases hpr : prs X.data.toList with
      | none =>
        rw [hpr] at hpa
        have hErr : Hid (lns s.data.toList = .error (n, 50)) := by show _ = _; rw [hacc.out]; exact pre_bad _ _ _ _ (by rw [size_list]; exact hlg) hpr
        have hpa' : Hid (Calls Tryd.prog 36 #[.string X] U2 fun e w' => e = .returned (.tuple #[.agg #[.int .i64 0, .string ⟨#[]⟩, .string ⟨#[]⟩, .int .i64 0], .bool false]) ∧ Below U2.heap.size U2 w') := hpa
        clear hpa hpr
        gi_wp2_with fail
        refine ⟨trivial, (CallsIn.inRound l1 (callsIn_wide.2 hpa'.out)).mono ?_⟩
        rintro e U3 ⟨rfl, hb3⟩
        obtain ⟨t1, t2, t3, t4⟩ := hi2.stop (Mv.below hb3) n 50 hErr
        have m3 : Mv (fun _ => False) U2 U3 := Mv.below hb3
        have d0 := c0.mv m3 (fun h => h)
        have d1 := c1.mv m3 (fun h => h)
        have d2 := c2.mv m3 (fun h => h)
        have e0 := d0.c
        have e1 := d0.f
        have e2 := d0.lt
        have e3 := d1.c
        have e4 := d1.f
        have e5 := d1.lt
        have e6 := d2.c
        have e7 := d2.f
        have e8 := d2.lt
        have x0 := World.frozen?_of_block (a := ⟨w.heap.size, 0, none⟩) (Below.heap_alloc U3 (.cells #[.int .i64 0, .string ⟨#[]⟩, .string ⟨#[]⟩, .int .i64 0] 60) _ e2)
        have x1 := World.frozen?_of_block (a := ⟨w.heap.size + 1, 0, none⟩) (Below.heap_alloc U3 (.cells #[.int .i64 0, .string ⟨#[]⟩, .string ⟨#[]⟩, .int .i64 0] 60) _ e5)
        have x2 := World.frozen?_of_block (a := ⟨w.heap.size + 1 + 1, 0, none⟩) (Below.heap_alloc U3 (.cells #[.int .i64 0, .string ⟨#[]⟩, .string ⟨#[]⟩, .int .i64 0] 60) _ e8)
        gi_wp2_with fail
        exact ⟨t1.trans' (Mv.alloc _ _ _), t2, t3, tX.keep _ _ _ _ t4 (Mv.alloc _ _ _)⟩
      | some p =>
        obtain ⟨kd, ky, vl⟩ := p
        obtain ⟨K, rfl, _, hKe⟩ := letters ky
        obtain ⟨Y, rfl, _, hYe⟩ := letters vl
        have hpa' : Hid (Calls Tryd.prog 36 #[.string X] U2 fun e w' => e = .returned (.tuple #[.agg #[.int .i64 kd, .string K, .string Y, .int .i64 0], .bool true]) ∧ Below U2.heap.size U2 w') := by
          show Calls _ _ _ _ _
          rw [hpr] at hpa
          unfold prsV lnV at hpa
          simp only [hKe, hYe] at hpa
          exact hpa
        have hGood := pre_good acc n X.data.toList rest (by rw [size_list]; exact hlg) _ hpr
        have hacc' : Hid (lns s.data.toList = pre (acc ++ [(kd, K.data.toList, Y.data.toList, n)]) (lnsW rest)) := by show _ = _; rw [hacc.out]; exact hGood
        have hcl : Hid (lnsC (acc ++ [(kd, K.data.toList, Y.data.toList, n)]) = lnsC acc ++ [.int .i64 kd, .string K, .string Y, .int .i64 n]) := by
          show _ = _
          rw [lnsC_snoc]
          show _ ++ [Value.int .i64 kd, .string ⟨K.data.toList.toArray⟩, .string ⟨Y.data.toList.toArray⟩, .int .i64 n] = _
          rw [Lib.mk_data, Lib.mk_data]
        clear hpa hpr hGood hKe hYe
        gi_wp2_with fail
        refine ⟨trivial, (CallsIn.inRound l1 (callsIn_wide.2 hpa'.out)).mono ?_⟩
        rintro e U3 ⟨rfl, hb3⟩
        have m3 : ∀ F : Nat → Prop, Mv F U2 U3 := fun F => Mv.below hb3
        have d3 := c3.mv (m3 (fun _ => False)) (fun h => h)
        have e0 := d3.c
        have e1 := d3.f
        have e2 := d3.lt
        have ho3 := own_mv ho (m3 (fun _ => False)) (fun _ _ h => h)
        have hr1 := (ho3.alloc (.cells #[.int .i64 kd, .string K, .string Y, .int .i64 n] 60)).alloc (.cells #[.int .i64 kd, .string K, .string Y, .int .i64 n] 60)
        gi_wp2_with (gi_at_builtin; refine wpListIn_append_own_at _ rfl _ _ 56 rfl (w.heap.size + 4) 60 i0 (.agg #[.int .i64 0, .string ⟨#[]⟩, .string ⟨#[]⟩, .int .i64 0]) 4 48 Tryd.underlying56 hinf hz0 hz1 hz2 rfl (by decide) _ _ _ rfl hr1 ⟨U3.heap.size + 1, 0, none⟩ 1 1 [.int .i64 kd, .string K, .string Y, .int .i64 n] rfl rfl (by simpa using four_new (U3.alloc (.cells #[.int .i64 kd, .string K, .string Y, .int .i64 n] 60)) _ _ _ _ _) (fun x hx => by simp at hx; rcases hx with rfl | rfl | rfl | rfl <;> rfl) (by unfold maxLen; omega) (by omega) (by simp; omega) ?_)
        intro v' w4 hown' hgrow _ hat
        obtain ⟨f3, hfin⟩ := LI.more hE2 c0 c1 c2 c3 ho (fun F => ((m3 F).trans' (Mv.alloc _ _ _)).trans' (Mv.alloc _ _ _)) hgrow hown' (by simpa using hat) _ hcl hacc' (by omega) hbg'
        obtain ⟨gg, cap', rfl⟩ := ownsRow_succ hown'
        have g3 := f3.c
        have g4 := f3.f
        gi_wp2_with fail
        exact hfin
  case done =>
    rintro D E2 U hD hK hnD hm hgr ⟨v, acc, ⟨hE2, hacc, hal, hbg⟩, ⟨c0, c1, c2, c3⟩, ho⟩
    have hOk : Hid (lns s.data.toList = .ok acc) := pre_ok hacc.out
    have a0 := c0.c
    have a1 := c0.f
    have b0 := c3.c
    have l1' := c1.oth (j := w.heap.size) (by omega) v
    have l2' := (c2.oth (j := w.heap.size) (by omega) v).oth (j := w.heap.size + 1) (by omega) (.int .i64 0)
    have a2 := l1'.c
    have a3 := l1'.f
    have a4 := l2'.c
    have a5 := l2'.f
    obtain ⟨R3, hR3⟩ : ∃ R3, ((U.setCell ⟨w.heap.size, 0, none⟩ v).setCell ⟨w.heap.size + 1, 0, none⟩ (.int .i64 0)).setCell ⟨w.heap.size + 1 + 1, 0, none⟩ (.int .i64 0) = R3 := ⟨_, rfl⟩
    have f0 := ((c0.set v).oth (j := w.heap.size + 1) (by omega) (.int .i64 0)).oth (j := w.heap.size + 1 + 1) (by omega) (.int .i64 0)
    have f1 := (l1'.set (.int .i64 0)).oth (j := w.heap.size + 1 + 1) (by omega) (.int .i64 0)
    have f2 := l2'.set (.int .i64 0)
    have mR : Mv (fun k => w.heap.size ≤ k ∧ k < w.heap.size + 4) U R3 := by rw [← hR3]; exact (((Mv.refl _ U).setc (p := ⟨w.heap.size, 0, none⟩) (.inl ⟨by simp, by simp⟩) _).setc (p := ⟨w.heap.size + 1, 0, none⟩) (.inl ⟨by simp, by simp⟩) _).setc (p := ⟨w.heap.size + 1 + 1, 0, none⟩) (.inl ⟨by simp; omega, by simp⟩) _
    rw [hR3] at f0 f1 f2
    have hown3 := own_mv ho mR (fun g hg h => by have := (ho.lt g hg).1; omega)
    have hKR : R3.heap[D]? = some (.deferred (some [])) := (mR.block D (lt_of_heap hK) (fun h => by omega)).trans hK
    have hb3 : Below w.heap.size w R3 := by
      have q1 : Below w.heap.size W1 U := hm.toBelow (by omega) (fun k hk h => by exact absurd h (nE k (.inl hk)))
      have q2 : Below w.heap.size U R3 := mR.toBelow (by have := hm.size; omega) (fun k hk h => by omega)
      exact ((hb0.trans ((m1 (fun _ => False)).toBelow (by omega) (fun _ _ h => h))).trans q1).trans q2
    have nvD : ¬ v.ownBlock = some D := fun e => hnD ((hE2 D).2 (.inr e))
    obtain ⟨ao, n', cap, rfl⟩ : ∃ ao n' cap, v = .slice ao n' cap := by
      rcases ho.2 with ⟨hv, _⟩ | ⟨g, cap, cur, hv, _⟩
      · exact ⟨_, _, _, hv⟩
      · exact ⟨_, _, _, hv⟩
    gi_wp2_with (rw [hR3])
    refine ⟨by simp, .inl ⟨_, _, rfl, run_takeDeferred hKR, ?_⟩⟩
    have mP : Mv (fun k => k = D) R3 (R3.putObj D (.deferred none)) := Mv.put (E := fun k => k = D) rfl _
    have z0 := (f0.mv mP (by omega)).c
    have z1 := (f1.mv mP (by omega)).c
    have z2 := (f2.mv mP (by omega)).c
    refine ⟨.tuple #[.slice ao n' cap, .int .i64 0, .int .i64 0], ?_, ?_⟩
    · simp [results, Tryd.results24, go_sem, z0, z1, z2]
    · rw [hOk.out]
      refine ⟨_, rfl, ?_, hb3.trans (mP.toBelow (by have := hb3.size; omega) (fun k hk e => by omega))⟩
      have h4 := own_mv hown3 mP (fun g hg e => nvD (e ▸ hg))
      exact ⟨h4.1, h4.2.imp id (fun ⟨g, c, cu, q1, q2, q3⟩ => ⟨g, c, cu, q1, by omega, q3⟩)⟩
  case stop =>
    rintro D c E2 U hD hK hnD hm hgr ⟨n, k, ⟨rfl, hE2, hErr⟩, c0, c1, c2, hzz⟩
    gi_wp2_with fail
    refine ⟨by simp, .inl ⟨_, _, rfl, run_takeDeferred hK, ?_⟩⟩
    have mP : Mv (fun k => k = D) U (U.putObj D (.deferred none)) := Mv.put (E := fun k => k = D) rfl _
    have z0 := (c0.mv mP (by omega)).c
    have z1 := (c1.mv mP (by omega)).c
    have z2 := (c2.mv mP (by omega)).c
    refine ⟨.tuple #[.slice none 0 0, .int .i64 n, .int .i64 k], ?_, ?_⟩
    · simp [results, Tryd.results24, go_sem, z0, z1, z2]
    · rw [hErr.out]
      have q1 : Below w.heap.size W1 U := hm.toBelow (by omega) (fun k hk h => by exact absurd h (nE k (.inl hk)))
      have hbU := (hb0.trans ((m1 (fun _ => False)).toBelow (by omega) (fun _ _ h => h))).trans q1
      exact ⟨rfl, hbU.trans (mP.toBelow (by have := hbU.size; omega) (fun k hk e => by omega))⟩
theorem lines_any (s : ByteArray) (w : World) (hg : Mx w) : Calls Tryd.prog 24 #[.string s] w (LinesP (lns s.data.toList) w) := by
  by_cases hz : 4000 < s.size
  · exact lines_long s w hz
  · exact lines_short s w hg (by omega)
end Go.Proofs.YtmoafagemdnifaaDoor
