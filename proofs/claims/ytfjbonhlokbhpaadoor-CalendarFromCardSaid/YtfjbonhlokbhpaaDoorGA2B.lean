/- The law CalendarGaps holds. -/
import Derived.Test.YtfjbonhlokbhpaaDoorGAB
namespace Go.Proofs.YtfjbonhlokbhpaaDoor
open Go.RowKit
/-- The expression in its box. -/
structure Bc (b : Nat) (S : Nat → Sl) (W : World) : Prop where
  c0 : W.cell? ⟨b, 0, none⟩ = some (slv (S 0))
  c1 : W.cell? ⟨b, 1, none⟩ = some (slv (S 1))
  c2 : W.cell? ⟨b, 2, none⟩ = some (slv (S 2))
  c3 : W.cell? ⟨b, 3, none⟩ = some (slv (S 3))
  c4 : W.cell? ⟨b, 4, none⟩ = some (slv (S 4))
  c5 : W.cell? ⟨b, 5, none⟩ = some (slv (S 5))
  c6 : W.cell? ⟨b, 6, none⟩ = some (slv (S 6))
theorem Bc.below {b : Nat} {S : Nat → Sl} {W V : World} (h : Bc b S W) (hb : Below W.heap.size W V) : Bc b S V :=
  ⟨(hb.cell (cell_lt h.c0)).trans h.c0, (hb.cell (cell_lt h.c1)).trans h.c1, (hb.cell (cell_lt h.c2)).trans h.c2, (hb.cell (cell_lt h.c3)).trans h.c3, (hb.cell (cell_lt h.c4)).trans h.c4, (hb.cell (cell_lt h.c5)).trans h.c5, (hb.cell (cell_lt h.c6)).trans h.c6⟩
theorem Bc.new (S : Nat → Sl) (w : World) : Bc w.heap.size S (w.alloc (.cells #[slv (S 0), slv (S 1), slv (S 2), slv (S 3), slv (S 4), slv (S 5), slv (S 6)] 24)) :=
  ⟨cell_at rfl rfl, cell_at rfl rfl, cell_at rfl rfl, cell_at rfl rfl, cell_at rfl rfl, cell_at rfl rfl, cell_at rfl rfl⟩
theorem tim_of (x : Int) : Civ.timB (mH x) (mMi x) (mS x) = true := by
  rw [Civ.timB_iff]; unfold mH mMi mS; omega
/-- Matches at the moment of a time. -/
theorem match_at (S : Nat → Sl) (c : Cal.C7) (x : Int) (w : World) (hp : CalPin (fun _ => False) w S c) (hg : GlP w) (h0 : 0 ≤ x) (h1 : x < 7289654400) (hf : (isB c && Cal.mt c x) = false) :
    Calls Tryd.prog 14 #[aggC S, momV (Civ.dY (x / 86400)) (Civ.dM (x / 86400)) (Civ.dD (x / 86400)) (mH x) (mMi x) (mS x)] w fun e w' => e = .returned (.bool false) ∧ Below w.heap.size w w' := by
  have := matches_on S c _ _ _ _ _ _ w hp hg (Civ.date_vld (n := x / 86400) (by omega) (by omega)) (tim_of x)
  rw [mtM_mt, hf] at this
  exact this
set_option maxRecDepth 100000 in
set_option maxHeartbeats 4000000 in
theorem gaps_walk (S : Nat → Sl) (c : Cal.C7) (t : Int) (a : Option Addr) (cap b o : Nat) (us : List Nat) (w : World) (hg : GlP w) (hcb : CalB w S c) (ht0 : -9223372036854775808 ≤ t) (ht1 : t ≤ 9223372036854775807)
    (ha : 0 < us.length → a = some ⟨b, o, none⟩) (hel : ∀ (j u : Nat), us[j]? = some u → w.cell? ⟨b, o + j, none⟩ = some (.int .u32 (u : Nat))) (hub : ∀ u ∈ us, u ≤ 4294967295) (hml : us.length ≤ maxLen) :
    Calls Tryd.prog 4 #[aggC S, .int .i64 t, .slice a us.length cap] w fun e w' => e = .returned (.bool true) ∧ Below w.heap.size w w' := by
  obtain ⟨n, hn⟩ : ∃ n, us.length = n := ⟨_, rfl⟩
  rw [hn] at ha hml ⊢
  have hN : Hid (us.length = n) := hn
  have haH := hidI2 ha
  have helH := hidI2 hel
  have hubH := hidI2 hub
  have hnm : (n : Int) ≤ 9223372036854775807 := by unfold maxLen at hml; omega
  clear hn ha hel hub hml
  obtain ⟨W, hW⟩ : ∃ W, w.alloc (.cells #[slv (S 0), slv (S 1), slv (S 2), slv (S 3), slv (S 4), slv (S 5), slv (S 6)] 24) = W := ⟨_, rfl⟩
  have hbW : Below w.heap.size w W := by rw [← hW]; exact (Below.refl _ _).alloc (Nat.le_refl _) _
  have hcW : Bc w.heap.size S W := by rw [← hW]; exact Bc.new S w
  have hkn := known_any W (hg.below hbW)
  have hcbH := hidI2 hcb
  clear hcb
  go_enter Tryd.func4, Tryd.ntmps4
  go_wp2_with (rw [hW])
  refine hkn.mono ?_
  rintro e w1 ⟨rfl, hb1⟩
  have hz1 := hbW.trans (hb1.mono hbW.size)
  have hc1 := hcW.below hb1
  obtain ⟨x0, x1, x2, x3, x4, x5, x6⟩ := id hc1
  have hfw := few_any S c w hcbH.out w1
  clear hkn hW hcW hb1 hbW
  have hc1H := hidI2 hc1
  have hz1H := hidI2 hz1
  clear hc1
  by_cases hfew : fewN c ≤ 60
  · rw [decide_eq_true hfew] at hfw
    have hp := hcbH.out.pin hfew
    by_cases hta : t < 0
    · clear hz1
      go_wp2_with fail
      refine hfw.mono ?_
      rintro e w2 ⟨rfl, hb2⟩
      have hz := hz1H.out.trans (hb2.mono hz1H.out.size)
      clear hfw hb2
      go_wp2_with fail
      go_ret
      exact ⟨rfl, hz⟩
    · have htab : decide (t < 0) = false := by simp; omega
      by_cases htb : 1099511627776 < t
      · clear hz1
        go_wp2_with fail
        refine hfw.mono ?_
        rintro e w2 ⟨rfl, hb2⟩
        have hz := hz1H.out.trans (hb2.mono hz1H.out.size)
        clear hfw hb2
        go_wp2_with fail
        go_ret
        exact ⟨rfl, hz⟩
      · have htbb : decide (1099511627776 < t) = false := by simp; omega
        by_cases h50 : 50 < n
        · have h50I : (50 : Int) < (n : Int) := by omega
          clear hz1
          go_wp2_with fail
          refine hfw.mono ?_
          rintro e w2 ⟨rfl, hb2⟩
          have hz := hz1H.out.trans (hb2.mono hz1H.out.size)
          clear hfw hb2
          go_wp2_with fail
          go_ret
          exact ⟨rfl, hz⟩
        · have h50I : decide ((50 : Int) < (n : Int)) = false := by simp; omega
          have h50J : ¬ (50 : Int) < (n : Int) := by omega
          clear hz1
          go_wp2_with fail
          refine hfw.mono ?_
          rintro e w2 ⟨rfl, hb2⟩
          have hz2 := hz1H.out.trans (hb2.mono hz1H.out.size)
          have hc2 := hc1H.out.below hb2
          have hp2 : CalPin (fun _ => False) w2 S c := hp.below hz2
          have hg2 := hg.below hz2
          clear hfw hb2 x0 x1 x2 x3 x4 x5 x6
          obtain ⟨x0, x1, x2, x3, x4, x5, x6⟩ := id hc2
          have hNx := next_any S c t w2 hp2 hg2.gl ht1
          obtain ⟨N, hNe⟩ : ∃ N, (if isB c = true then (Cal.nx c t).getD 0 else 0) = N := ⟨_, rfl⟩
          obtain ⟨okb, hok⟩ : ∃ okb, (isB c && (Cal.nx c t).isSome) = okb := ⟨_, rfl⟩
          rw [hNe, hok] at hNx
          have hT : Hid (∀ x, t < x → x < 7289654400 → (okb = true → x < N) → (isB c && Cal.mt c x) = false) := fun x h1 h2 h3 => by
            cases hI : isB c with
            | false => rfl
            | true =>
              rw [Bool.true_and]
              rw [hI, Bool.true_and] at hok
              simp only [hI, if_true] at hNe
              cases hn : Cal.nx c t with
              | none => exact Cal.nx_none.1 hn x (by omega) h2
              | some k =>
                rw [hn] at hok hNe
                simp only [Option.getD_some] at hNe
                subst hNe
                exact (Cal.nx_some.1 hn).2 x (by omega) (h3 hok.symm)
          have hc2H := hidI2 hc2
          have hp2H := hidI2 hp2
          have hg2H := hidI2 hg2
          have hz2H := hidI2 hz2
          clear hNe hok hp2 hc2 hg2 hz2 hp
          go_wp2_with fail
          refine hNx.mono ?_
          rintro e w3 ⟨rfl, hb3⟩
          have hz3 := hidI2 (hz2H.out.trans (hb3.mono hz2H.out.size))
          have hc3 := hidI2 (hc2H.out.below hb3)
          have hp3 := hidI2 (hp2H.out.below hb3)
          have hg3 := hidI2 (hg2H.out.below hb3)
          clear hNx hb3 hz2H hc2H hp2H hg2H x0 x1 x2 x3 x4 x5 x6
          go_wp2_with fail
          go_loopw [9] (fun i wr => ∃ k : Nat, k ≤ n ∧ i = .int .i64 k ∧ Below w3.heap.size w3 wr) (fun i _ => n - (intOf i).toNat)
          case atStart => exact ⟨0, by omega, rfl, Below.refl _ _⟩
          case round =>
            obtain ⟨k, hk, rfl, hb⟩ := hrel
            have hzr := hidI2 (hz3.out.trans (hb.mono hz3.out.size))
            by_cases hlt : k < n
            · obtain rfl := haH.out (by omega)
              obtain ⟨u, hu⟩ : ∃ u, us[k]? = some u := ⟨_, List.getElem?_eq_getElem (by rw [hN.out]; exact hlt)⟩
              have hcell := (hzr.out.cell (p := ⟨b, o + k, none⟩) (cell_lt (helH.out k u hu))).trans (helH.out k u hu)
              have hu32 := hubH.out u (List.mem_of_getElem? hu)
              have hkI : (k : Int) < (n : Int) := by omega
              obtain ⟨x, hx⟩ : ∃ x : Int, t + 1 + (u : Int) = x := ⟨_, rfl⟩
              have hw1 : IntKind.i64.wrap (t + 1) = t + 1 := by rw [IntKind.wrap_i64]; omega
              have hw2 : IntKind.i64.wrap (t + 1 + (u : Int)) = x := by rw [IntKind.wrap_i64]; omega
              have hx0 : 0 ≤ x := by omega
              have hx9 : x ≤ 1103806595073 := by omega
              have hxt : Hid (t < x) := by show _ < _; omega
              have hbH := hidI2 hb
              clear hx hu hb
              by_cases hbig : 7289654400 ≤ x
              · have hM := rMoment_no x wr (.inr hbig) (by omega)
                go_wp2_with fail
                refine hM.mono ?_
                rintro e w4 ⟨rfl, hb4⟩
                have hb4' : Below w3.heap.size w3 (w4.alloc (.cells #[.int .i64 0, .int .i64 0, .int .i64 0, .int .i64 0, .int .i64 0, .int .i64 0] 37)) := (hbH.out.trans (hb4.mono hbH.out.size)).trans ((Below.refl _ _).alloc (Nat.le_trans hbH.out.size hb4.size) _)
                have hb4H := hidI2 hb4'
                clear hM hb4 hb4' hw1 hw2 hcell
                go_wp2_with fail
                exact ⟨⟨k + 1, by omega, by go_num, hb4H.out⟩, by simp [intOf]; omega⟩
              · have hM := rMoment_yes x wr hx0 (by omega)
                have hMat : ∀ U, CalPin (fun _ => False) U S c → GlP U → (isB c && Cal.mt c x) = false → Calls Tryd.prog 14 #[aggC S, momV (Civ.dY (x / 86400)) (Civ.dM (x / 86400)) (Civ.dD (x / 86400)) (mH x) (mMi x) (mS x)] U fun e w' => e = .returned (.bool false) ∧ Below U.heap.size U w' := fun U hp hg hf => match_at S c x U hp hg hx0 (by omega) hf
                have hgr := hg3.out.below hbH.out
                have hpr := hp3.out.below hbH.out
                have hcr := hc3.out.below hbH.out
                generalize Civ.dY (x / 86400) = y at hM hMat
                generalize Civ.dM (x / 86400) = m at hM hMat
                generalize Civ.dD (x / 86400) = d at hM hMat
                generalize mH x = h at hM hMat
                generalize mMi x = mi at hM hMat
                generalize mS x = s at hM hMat
                cases okb with
                | false =>
                  have hmt : Hid (∀ U, CalPin (fun _ => False) U S c → GlP U → Calls Tryd.prog 14 #[aggC S, momV y m d h mi s] U fun e w' => e = .returned (.bool false) ∧ Below U.heap.size U w') := fun U hp hg => hMat U hp hg (hT.out x hxt.out (by omega) (fun h => Bool.noConfusion h))
                  clear hMat
                  go_wp2_with fail
                  refine hM.mono ?_
                  rintro e w4 ⟨rfl, hb4⟩
                  obtain ⟨U, hU⟩ : ∃ U, w4.alloc (.cells #[.int .i64 y, .int .i64 m, .int .i64 d, .int .i64 h, .int .i64 mi, .int .i64 s] 37) = U := ⟨_, rfl⟩
                  have hbU : Below w4.heap.size w4 U := by rw [← hU]; exact (Below.refl _ _).alloc (Nat.le_refl _) _
                  have hbrU : Below wr.heap.size wr U := hb4.trans (hbU.mono hb4.size)
                  have hb3U := hidI2 (hbH.out.trans (hbrU.mono hbH.out.size))
                  obtain ⟨x0, x1, x2, x3, x4, x5, x6⟩ := hcr.below hbrU
                  have v0 : U.cell? ⟨w4.heap.size, 0, none⟩ = some (.int .i64 y) := by rw [← hU]; exact cell_at rfl rfl
                  have v1 : U.cell? ⟨w4.heap.size, 1, none⟩ = some (.int .i64 m) := by rw [← hU]; exact cell_at rfl rfl
                  have v2 : U.cell? ⟨w4.heap.size, 2, none⟩ = some (.int .i64 d) := by rw [← hU]; exact cell_at rfl rfl
                  have v3 : U.cell? ⟨w4.heap.size, 3, none⟩ = some (.int .i64 h) := by rw [← hU]; exact cell_at rfl rfl
                  have v4 : U.cell? ⟨w4.heap.size, 4, none⟩ = some (.int .i64 mi) := by rw [← hU]; exact cell_at rfl rfl
                  have v5 : U.cell? ⟨w4.heap.size, 5, none⟩ = some (.int .i64 s) := by rw [← hU]; exact cell_at rfl rfl
                  have hMt := hmt.out U (hpr.below hbrU) (hgr.below hbrU)
                  have hMtH := hidI2 hMt
                  clear hM hbU hbrU hcell hw1 hw2 hb4 hcr hMt
                  go_wp2_with (rw [hU])
                  refine hMtH.out.mono ?_
                  rintro e w5 ⟨rfl, hb5⟩
                  have hb35 := hidI2 (hb3U.out.trans (hb5.mono hb3U.out.size))
                  clear hb5 hMtH x0 x1 x2 x3 x4 x5 x6 v0 v1 v2 v3 v4 v5 hU
                  go_wp2_with fail
                  exact ⟨⟨k + 1, by omega, by go_num, hb35.out⟩, by simp [intOf]; omega⟩
                | true =>
                  by_cases hlx : x < N
                  · have hmt : Hid (∀ U, CalPin (fun _ => False) U S c → GlP U → Calls Tryd.prog 14 #[aggC S, momV y m d h mi s] U fun e w' => e = .returned (.bool false) ∧ Below U.heap.size U w') := fun U hp hg => hMat U hp hg (hT.out x hxt.out (by omega) (fun _ => hlx))
                    clear hMat
                    go_wp2_with fail
                    refine hM.mono ?_
                    rintro e w4 ⟨rfl, hb4⟩
                    obtain ⟨U, hU⟩ : ∃ U, w4.alloc (.cells #[.int .i64 y, .int .i64 m, .int .i64 d, .int .i64 h, .int .i64 mi, .int .i64 s] 37) = U := ⟨_, rfl⟩
                    have hbU : Below w4.heap.size w4 U := by rw [← hU]; exact (Below.refl _ _).alloc (Nat.le_refl _) _
                    have hbrU : Below wr.heap.size wr U := hb4.trans (hbU.mono hb4.size)
                    have hb3U := hidI2 (hbH.out.trans (hbrU.mono hbH.out.size))
                    obtain ⟨x0, x1, x2, x3, x4, x5, x6⟩ := hcr.below hbrU
                    have v0 : U.cell? ⟨w4.heap.size, 0, none⟩ = some (.int .i64 y) := by rw [← hU]; exact cell_at rfl rfl
                    have v1 : U.cell? ⟨w4.heap.size, 1, none⟩ = some (.int .i64 m) := by rw [← hU]; exact cell_at rfl rfl
                    have v2 : U.cell? ⟨w4.heap.size, 2, none⟩ = some (.int .i64 d) := by rw [← hU]; exact cell_at rfl rfl
                    have v3 : U.cell? ⟨w4.heap.size, 3, none⟩ = some (.int .i64 h) := by rw [← hU]; exact cell_at rfl rfl
                    have v4 : U.cell? ⟨w4.heap.size, 4, none⟩ = some (.int .i64 mi) := by rw [← hU]; exact cell_at rfl rfl
                    have v5 : U.cell? ⟨w4.heap.size, 5, none⟩ = some (.int .i64 s) := by rw [← hU]; exact cell_at rfl rfl
                    have hMt := hmt.out U (hpr.below hbrU) (hgr.below hbrU)
                    have hMtH := hidI2 hMt
                    clear hM hbU hbrU hcell hw1 hw2 hb4 hcr hMt
                    go_wp2_with (rw [hU])
                    refine hMtH.out.mono ?_
                    rintro e w5 ⟨rfl, hb5⟩
                    have hb35 := hidI2 (hb3U.out.trans (hb5.mono hb3U.out.size))
                    clear hb5 hMtH x0 x1 x2 x3 x4 x5 x6 v0 v1 v2 v3 v4 v5 hU
                    go_wp2_with fail
                    exact ⟨⟨k + 1, by omega, by go_num, hb35.out⟩, by simp [intOf]; omega⟩
                  · have hlxb : decide (x < N) = false := by simp; omega
                    clear hMat
                    go_wp2_with fail
                    refine hM.mono ?_
                    rintro e w4 ⟨rfl, hb4⟩
                    obtain ⟨U, hU⟩ : ∃ U, w4.alloc (.cells #[.int .i64 y, .int .i64 m, .int .i64 d, .int .i64 h, .int .i64 mi, .int .i64 s] 37) = U := ⟨_, rfl⟩
                    have hbU : Below w4.heap.size w4 U := by rw [← hU]; exact (Below.refl _ _).alloc (Nat.le_refl _) _
                    have hbrU : Below wr.heap.size wr U := hb4.trans (hbU.mono hb4.size)
                    have hb3U := hidI2 (hbH.out.trans (hbrU.mono hbH.out.size))
                    obtain ⟨x0, x1, x2, x3, x4, x5, x6⟩ := hcr.below hbrU
                    have v0 : U.cell? ⟨w4.heap.size, 0, none⟩ = some (.int .i64 y) := by rw [← hU]; exact cell_at rfl rfl
                    have v1 : U.cell? ⟨w4.heap.size, 1, none⟩ = some (.int .i64 m) := by rw [← hU]; exact cell_at rfl rfl
                    have v2 : U.cell? ⟨w4.heap.size, 2, none⟩ = some (.int .i64 d) := by rw [← hU]; exact cell_at rfl rfl
                    have v3 : U.cell? ⟨w4.heap.size, 3, none⟩ = some (.int .i64 h) := by rw [← hU]; exact cell_at rfl rfl
                    have v4 : U.cell? ⟨w4.heap.size, 4, none⟩ = some (.int .i64 mi) := by rw [← hU]; exact cell_at rfl rfl
                    have v5 : U.cell? ⟨w4.heap.size, 5, none⟩ = some (.int .i64 s) := by rw [← hU]; exact cell_at rfl rfl
                    clear hM hbU hbrU hcell hw1 hw2 hb4 hcr
                    go_wp2_with (rw [hU])
                    exact ⟨⟨k + 1, by omega, by go_num, hb3U.out⟩, by simp [intOf]; omega⟩
            · obtain rfl : k = n := by omega
              have hkI : ¬ ((k : Int) < (k : Int)) := by omega
              clear hb
              go_wp2_with fail
              go_ret
              exact ⟨rfl, hzr.out⟩
  · rw [decide_eq_false hfew] at hfw
    clear hz1
    go_wp2_with fail
    refine hfw.mono ?_
    rintro e w2 ⟨rfl, hb2⟩
    have hz := hz1H.out.trans (hb2.mono hz1H.out.size)
    clear hfw hb2
    go_wp2_with fail
    go_ret
    exact ⟨rfl, hz⟩
end Go.Proofs.YtfjbonhlokbhpaaDoor
