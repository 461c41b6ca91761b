/- The law CalendarFrom holds. -/
import Derived.Test.YtfjbonhlokbhpaaDoorFR5B
namespace Go.Proofs.YtfjbonhlokbhpaaDoor
open Go.RowKit Go.Shelf
theorem calBox_mono {E E' : Nat → Prop} {W : World} {b : Nat} {S : Nat → Sl} {c : Cal.C7} (h : CalBox E W b S c) (he : ¬ E' b) : CalBox E' W b S c := ⟨he, h.c0, h.c1, h.c2, h.c3, h.c4, h.c5, h.c6⟩
theorem calPin_mono {E E' : Nat → Prop} {W : World} {S : Nat → Sl} {c : Cal.C7} (h : CalPin E W S c) (he : ∀ k, E' k → E k) : CalPin E' W S c :=
  ⟨pin_mono h.p0 he, pin_mono h.p1 he, pin_mono h.p2 he, pin_mono h.p3 he, pin_mono h.p4 he, pin_mono h.p5 he, pin_mono h.p6 he⟩
theorem own_ints {w : World} {base : Nat} {v : Value} {l : List Int} (h : w.ownsRow base 2 1 v l.length (l.map (Value.int .i64))) :
    ∃ (a : Option Addr) (g cap : Nat), v = .slice a l.length cap ∧ (0 < l.length → a = some ⟨g, 0, none⟩) ∧ ∀ (j : Nat) (x : Int), l[j]? = some x → w.cell? ⟨g, j, none⟩ = some (.int .i64 x) := by
  rcases id h.2 with ⟨hv, h0⟩ | ⟨g, cap, cur, hv, _⟩
  · exact ⟨none, 0, 0, by rw [hv, h0], fun hp => by omega, fun j x hj => by have := (List.getElem?_eq_some_iff.1 hj).1; omega⟩
  · refine ⟨some ⟨g, 0, none⟩, g, cap, hv, fun _ => rfl, fun j x hj => ?_⟩
    have hjl : j < l.length := (List.getElem?_eq_some_iff.1 hj).1
    subst hv
    have hc := h.cellAt j (by omega)
    refine hc.trans ?_
    rw [List.getElem?_map, hj]; rfl
set_option maxRecDepth 100000 in
set_option maxHeartbeats 4000000 in
theorem from_walk (S : Nat → Sl) (c : Cal.C7) (t : Int) (n0 : Nat) (w : World) (hg : GlP w) (hcb : CalB w S c) (ht0 : -9223372036854775808 ≤ t) (ht1 : t ≤ 9223372036854775807) (h255 : n0 ≤ 255) :
    Calls Tryd.prog 3 #[aggC S, .int .i64 t, .int .u8 n0] w fun e w' => e = .returned (.bool true) ∧ Below w.heap.size w w' := by
  obtain ⟨W, hW⟩ : ∃ W, w.alloc (.cells #[slv (S 0), slv (S 1), slv (S 2), slv (S 3), slv (S 4), slv (S 5), slv (S 6)] 24) = W := ⟨_, rfl⟩
  have hbW : Below w.heap.size w W := by rw [← hW]; exact (Below.refl _ _).alloc (Nat.le_refl _) _
  have hcW : Bc w.heap.size S W := by rw [← hW]; exact Bc.new S w
  have hkn := known_any W (hg.below hbW)
  have hcbH := hidI2 hcb
  obtain ⟨n, hn⟩ : ∃ n, n0 % 6 + 1 = n := ⟨_, rfl⟩
  have hn1 : 1 ≤ n := by omega
  have hn6 : n ≤ 6 := by omega
  have hnI : IntKind.i64.wrap ((n0 : Int) % 6 + 1) = (n : Int) := by rw [IntKind.wrap_i64]; omega
  clear hcb hn
  go_enter Tryd.func3, Tryd.ntmps3
  go_wp2_with (rw [hW])
  refine hkn.mono ?_
  rintro e w1 ⟨rfl, hb1⟩
  have hz1 := hbW.trans (hb1.mono hbW.size)
  have hc1 := hcW.below hb1
  obtain ⟨x0, x1, x2, x3, x4, x5, x6⟩ := id hc1
  have hfw := few_any S c w hcbH.out w1
  clear hkn hW hcW hb1 hbW
  have hc1H := hidI2 hc1
  have hz1H := hidI2 hz1
  clear hc1 hz1
  by_cases hfew : fewN c ≤ 60
  · rw [decide_eq_true hfew] at hfw
    have hp := hcbH.out.pin hfew
    go_wp2_with fail
    refine hfw.mono ?_
    rintro e w2 ⟨rfl, hb2⟩
    have hz2 := hz1H.out.trans (hb2.mono hz1H.out.size)
    have hc2 := hc1H.out.below hb2
    have hp2 : CalPin (fun _ => False) w2 S c := hp.below hz2
    have hg2 := hg.below hz2
    have hlt2 : w.heap.size < w2.heap.size := cell_lt hc2.c0
    have h2w : 2 < w.heap.size := by obtain ⟨m, hm⟩ := hg.mx; exact cell_lt hm
    clear hfw hb2 x0 x1 x2 x3 x4 x5 x6 hp
    obtain ⟨W4, hW4⟩ : ∃ W4, (w2.alloc (.cells #[.int .i64 n] 3)).alloc (.cells #[.slice none 0 0] 27) = W4 := ⟨_, rfl⟩
    have hb4 : Below w2.heap.size w2 W4 := by rw [← hW4]; exact ((Below.refl _ _).alloc (Nat.le_refl _) _).alloc (by simp) _
    have hs4 : W4.heap.size = w2.heap.size + 2 := by rw [← hW4]; simp
    have kn4 : W4.cell? ⟨w2.heap.size, 0, none⟩ = some (.int .i64 n) := by rw [← hW4]; exact (((Below.refl _ _).alloc (Nat.le_refl _) _).cell (p := ⟨w2.heap.size, 0, none⟩) (by simp)).trans (cell_at rfl rfl)
    have kl4 : Cl (w2.heap.size + 1) (.slice none 0 0) W4 := by
      rw [← hW4]
      exact ⟨cell_at (by simp) rfl, by simp⟩
    have hz4 := hz2.trans (hb4.mono hz2.size)
    have hsz2 := hz2.size
    have hc4 := hc2.below hb4
    have hp4 := hp2.below hb4
    have hg4 := hg2.below hb4
    obtain ⟨x0, x1, x2, x3, x4, x5, x6⟩ := id hc4
    have X := hidI2 (And.intro hs4 (And.intro kn4 (And.intro kl4 (And.intro hz4 (And.intro hc4 (And.intro hp4 (And.intro hg4 (And.intro hsz2 h2w))))))))
    clear hs4 kn4 kl4 hz4 hc4 hp4 hg4 hb4 hc2 hp2 hg2 hz2 hsz2 h2w
    cases hI : isB c with
    | false =>
      have hfr := from_no S c t W4 X.out.2.2.2.2.2.1 X.out.2.2.2.2.2.2.1 hI
      have hIH := hidI2 hI
      clear hI
      go_wp2_with (rw [hW4])
      refine hfr.mono ?_
      rintro e w5 ⟨rfl, hb5⟩
      clear hfr hW4
      go_wp2_with fail
      refine (from1_none _ w5).mono ?_
      rintro e w6 ⟨rfl, rfl⟩
      obtain ⟨hs4, kn4, kl4, hz4, hc4, hp4, hg4, hsz2, h2w⟩ := X.out
      have kn5 : w6.cell? ⟨w2.heap.size, 0, none⟩ = some (.int .i64 n) := (hb5.cell (p := ⟨w2.heap.size, 0, none⟩) (by show w2.heap.size < _; omega)).trans kn4
      have kl5 : w6.cell? ⟨w2.heap.size + 1, 0, none⟩ = some (.slice none 0 0) := (hb5.cell (p := ⟨w2.heap.size + 1, 0, none⟩) (by show w2.heap.size + 1 < _; omega)).trans kl4.c
      have hz5 := hz4.trans (hb5.mono hz4.size)
      have hNx := next_any S c t w6 (hp4.below hb5) (hg4.below hb5).gl ht1
      rw [hIH.out] at hNx
      simp only [Bool.false_eq_true, if_false, Bool.false_and] at hNx
      obtain ⟨y0, y1, y2, y3, y4, y5, y6⟩ := hc4.below hb5
      have hnI2 : (0 : Int) < (n : Int) := by omega
      clear hs4 kn4 kl4 hz4 hc4 hp4 hg4 hb5 x0 x1 x2 x3 x4 x5 x6 hIH X
      go_wp2_with fail
      go_loopw [9, 10] (fun va vi wr => va = .int .i64 t ∧ vi = .int .i64 0 ∧ wr = w6) (fun _ _ _ => 0)
      case atStart => exact ⟨rfl, rfl, rfl⟩
      case round =>
        obtain ⟨rfl, rfl, rfl⟩ := hrel
        go_wp2_with fail
        refine hNx.mono ?_
        rintro e w7 ⟨rfl, hb7⟩
        have kl7 := (hb7.cell (p := ⟨w2.heap.size + 1, 0, none⟩) (cell_lt kl5)).trans kl5
        have hz7 := hz5.trans (hb7.mono hz5.size)
        clear hNx hb7
        go_wp2_with fail
        go_ret
        exact ⟨rfl, hz7⟩
    | true =>
      have hfr := from_yes S c t W4 X.out.2.2.2.2.2.1 X.out.2.2.2.2.2.2.1 hI
      have hIH := hidI2 hI
      clear hI
      go_wp2_with (rw [hW4])
      refine hfr.mono ?_
      rintro e w5 ⟨bt, bc, S', rfl, hb5, hpin5, hbc, hbt, ct, hbx⟩
      obtain ⟨hs4, kn4, kl4, hz4, hc4, hp4, hg4, hsz2, h2w⟩ := X.out
      have hs5 := hb5.size
      have hs25 : w2.heap.size + 2 ≤ w5.heap.size := by omega
      have hsw2 : w.heap.size ≤ w2.heap.size := by omega
      have kn5 : w5.cell? ⟨w2.heap.size, 0, none⟩ = some (.int .i64 n) := (hb5.cell (p := ⟨w2.heap.size, 0, none⟩) (by show w2.heap.size < _; omega)).trans kn4
      have kl5 : Cl (w2.heap.size + 1) (.slice none 0 0) w5 := kl4.mv (E := fun _ => False) (Mv.below hb5) (fun h => h)
      have hrun := from_run c t bt bc S' (w2.heap.size + 1) w2.heap.size n w5 hIH.out (hg4.below hb5) ht1 (by omega) (by omega) (by omega) (by omega) (by omega) (by omega) (by omega) ct (calBox_mono hbx (by omega)) (calPin_mono hpin5 (fun k hk => by omega)) kl5 kn5
      have hrunH := hidI2 hrun
      have hz5 := hidI2 (hz4.trans (hb5.mono hz4.size))
      have hc5 := hidI2 (hc4.below hb5)
      have hp5 := hidI2 (hp4.below hb5)
      have hg5 := hidI2 (hg4.below hb5)
      clear hrun hfr hW4 hs4 kn4 kl4 hz4 hc4 hp4 hg4 hb5 x0 x1 x2 x3 x4 x5 x6 X hpin5 hbc hbt ct hbx kn5 kl5
      go_wp2_with fail
      refine hrunH.out.mono ?_
      rintro e w6 ⟨⟨u, rfl⟩, v', hfj, hm6⟩
      obtain ⟨T, hT⟩ : ∃ T, Cal.ts c t = T := ⟨_, rfl⟩
      rw [hT] at hfj
      have hTH : Hid (Cal.ts c t = T) := hT
      obtain ⟨L, hL⟩ : ∃ L, T.take n = L := ⟨_, rfl⟩
      rw [hL] at hfj
      have hLH : Hid (T.take n = L) := hL
      have hLl : Hid (L.length = min n T.length) := by show _ = _; rw [← hL, List.length_take]
      obtain ⟨a, g, cap, rfl, hag, hcel⟩ := own_ints hfj.ow
      obtain ⟨ll, hll⟩ : ∃ ll, L.length = ll := ⟨_, rfl⟩
      have hllH : Hid (L.length = ll) := hll
      have kl6 := hfj.cl.c
      have kn6 := hfj.cn
      rw [hll] at hag kl6
      have hlln : ll ≤ 6 := by have := hLl.out; omega
      have hzw6 : Below w2.heap.size w5 w6 := hm6.toBelow (by omega) (fun k hk => by omega)
      have hz6 : Hid (Below w.heap.size w w6) := hz5.out.trans (hzw6.mono (by omega))
      have hc6 : Hid (Bc w.heap.size S w6) := by
        have h := hc5.out
        have hlt := hlt2
        exact ⟨(hzw6.cell (p := ⟨w.heap.size, 0, none⟩) hlt).trans h.c0, (hzw6.cell (p := ⟨w.heap.size, 1, none⟩) hlt).trans h.c1, (hzw6.cell (p := ⟨w.heap.size, 2, none⟩) hlt).trans h.c2, (hzw6.cell (p := ⟨w.heap.size, 3, none⟩) hlt).trans h.c3, (hzw6.cell (p := ⟨w.heap.size, 4, none⟩) hlt).trans h.c4, (hzw6.cell (p := ⟨w.heap.size, 5, none⟩) hlt).trans h.c5, (hzw6.cell (p := ⟨w.heap.size, 6, none⟩) hlt).trans h.c6⟩
      have hp6 : Hid (CalPin (fun _ => False) w6 S c) := (hcbH.out.pin hfew).below hz6.out
      have hg6 : Hid (GlP w6) := hg.below hz6.out
      have hcelH := hidI2 hcel
      have hagH := hidI2 hag
      have hTs : Hid (∀ x ∈ T, max t (-1) < x ∧ x < 7289654400 ∧ Cal.mt c x = true) := fun x hx => Cal.mem_ts.1 (by rw [hTH.out]; exact hx)
      have hso : Hid (T.Pairwise (· < ·)) := by show List.Pairwise _ _; rw [← hTH.out]; exact Cal.sort_ts
      have hNxH : Hid (∀ i (V : World), i ≤ T.length → CalPin (fun _ => False) V S c → GlP V → Calls Tryd.prog 12 #[aggC S, .int .i64 (atI t T i)] V fun e w' => e = .returned (.tuple #[.int .i64 (T[i]?.getD 0), .bool T[i]?.isSome]) ∧ Below V.heap.size V w') := fun i V hi hp hg => by
        have h := next_any S c (atI t T i) V hp hg.gl (by rw [← hTH.out] at hi ⊢; exact atI_bd ht1 i hi)
        have hnx := nx_atI (c := c) (t := t) i (by rw [hTH.out]; exact hi)
        rw [hTH.out] at hnx
        rw [hIH.out, hnx] at h
        simpa only [if_true, Bool.true_and] using h
      clear hT hL hcel hag hll hm6 hzw6 hfj hrunH hz5 hc5 hp5 hg5 hs5 hs25 hsw2
      go_wp2_with fail
      go_loopw [9, 10] (fun va vi wr => ∃ i : Nat, i ≤ n ∧ i ≤ T.length ∧ va = .int .i64 (atI t T i) ∧ vi = .int .i64 i ∧ Below w6.heap.size w6 wr) (fun _ vi _ => n - (intOf vi).toNat)
      case atStart => exact ⟨0, by omega, by omega, rfl, rfl, Below.refl _ _⟩
      case round =>
        obtain ⟨i, hin, hiT, rfl, rfl, hb⟩ := hrel
        have kn := (hb.cell (p := ⟨w2.heap.size, 0, none⟩) (cell_lt kn6)).trans kn6
        have kl := (hb.cell (p := ⟨w2.heap.size + 1, 0, none⟩) (cell_lt kl6)).trans kl6
        have hpr := hidI2 (hp6.out.below hb)
        have hgr := hidI2 (hg6.out.below hb)
        have hcr := hidI2 (hc6.out.below hb)
        have hzr := hidI2 (hz6.out.trans (hb.mono hz6.out.size))
        obtain ⟨x0, x1, x2, x3, x4, x5, x6⟩ := hcr.out
        have hbH := hidI2 hb
        have hiTH := hidI2 hiT
        clear hb
        by_cases hlt : i < n
        · have hltI : (i : Int) < (n : Int) := by omega
          have hNx := hNxH.out i wr hiT hpr.out hgr.out
          cases hTi : T[i]? with
          | none =>
            rw [hTi] at hNx
            simp only [Option.getD_none, Option.isSome_none] at hNx
            have hTl : T.length = i := by
              have := List.getElem?_eq_none_iff.1 hTi
              omega
            have hli : ll = i := by have := hLl.out; have := hllH.out; omega
            have hNxH2 := hidI2 hNx
            generalize atI t T i = at' at *
            clear hNx hTi hTl
            subst hli
            go_wp2_with fail
            refine hNxH2.out.mono ?_
            rintro e w7 ⟨rfl, hb7⟩
            have kl7 := (hb7.cell (p := ⟨w2.heap.size + 1, 0, none⟩) (cell_lt kl)).trans kl
            have hz7 := hidI2 (hzr.out.trans (hb7.mono hzr.out.size))
            clear hb7 hNxH2 x0 x1 x2 x3 x4 x5 x6 kl kn
            go_wp2_with fail
            go_ret
            exact ⟨rfl, hz7.out⟩
          | some x =>
            rw [hTi] at hNx
            simp only [Option.getD_some, Option.isSome_some] at hNx
            obtain ⟨q1, q2, q3⟩ := hTs.out x (List.mem_of_getElem? hTi)
            have hTl : i < T.length := (List.getElem?_eq_some_iff.1 hTi).1
            have hax : atI t T i < x := by
              cases i with
              | zero => show t < x; omega
              | succ j =>
                have hp := List.pairwise_iff_getElem.1 hso.out j (j + 1) (by omega) hTl (by omega)
                have e1 : T[j + 1] = x := (List.getElem?_eq_some_iff.1 hTi).2
                show T.getD j 0 < x
                rw [List.getD_eq_getElem?_getD, List.getElem?_eq_getElem (by omega), Option.getD_some]
                omega
            have hnext : Hid (atI t T (i + 1) = x) := by
              show T.getD i 0 = x
              rw [List.getD_eq_getElem?_getD, hTi]; rfl
            have hil : i < ll := by have := hLl.out; have := hllH.out; omega
            have hLi : L[i]? = some x := by rw [← hLH.out, List.getElem?_take_of_lt hlt]; exact hTi
            have hcel := (hbH.out.cell (p := ⟨g, i, none⟩) (cell_lt (hcelH.out i x hLi))).trans (hcelH.out i x hLi)
            obtain rfl := hagH.out (by omega)
            have hilI : decide ((ll : Int) ≤ (i : Int)) = false := by simp; omega
            have hilJ : (i : Int) < (ll : Int) := by omega
            have hx0 : 0 ≤ x := by omega
            have hM := fun w => rMoment_yes x w hx0 q2
            have hMat : ∀ U, CalPin (fun _ => False) U S c → GlP U → Calls Tryd.prog 14 #[aggC S, momV (Civ.dY (x / 86400)) (Civ.dM (x / 86400)) (Civ.dD (x / 86400)) (mH x) (mMi x) (mS x)] U fun e w' => e = .returned (.bool true) ∧ Below U.heap.size U w' := fun U hp hg => match_yes S c x U hp hg hIH.out hx0 q2 q3
            generalize Civ.dY (x / 86400) = y at hM hMat
            generalize Civ.dM (x / 86400) = m at hM hMat
            generalize Civ.dD (x / 86400) = d at hM hMat
            generalize mH x = h at hM hMat
            generalize mMi x = mi at hM hMat
            generalize mS x = s at hM hMat
            have hMH := hidI2 hM
            have hMatH := hidI2 hMat
            have hNxH2 := hidI2 hNx
            have hiT2 := hidI2 (show i + 1 ≤ T.length by omega)
            have haxb : decide (x ≤ atI t T i) = false := by simp; omega
            generalize atI t T i = at' at *
            clear hNx hTi hTl hM hMat hLi q1 q2 q3
            go_wp2_with fail
            refine hNxH2.out.mono ?_
            rintro e w7 ⟨rfl, hb7⟩
            clear hNxH2 x0 x1 x2 x3 x4 x5 x6
            go_wp2_with fail
            refine (hMH.out w7).mono ?_
            rintro e w8 ⟨rfl, hb8⟩
            obtain ⟨U, hU⟩ : ∃ U, w8.alloc (.cells #[.int .i64 y, .int .i64 m, .int .i64 d, .int .i64 h, .int .i64 mi, .int .i64 s] 37) = U := ⟨_, rfl⟩
            have hbU : Below w8.heap.size w8 U := by rw [← hU]; exact (Below.refl _ _).alloc (Nat.le_refl _) _
            have hbrU : Below wr.heap.size wr U := (hb7.trans (hb8.mono hb7.size)).trans (hbU.mono (Nat.le_trans hb7.size hb8.size))
            obtain ⟨x0, x1, x2, x3, x4, x5, x6⟩ := hcr.out.below hbrU
            have klU := (hbrU.cell (p := ⟨w2.heap.size + 1, 0, none⟩) (cell_lt kl)).trans kl
            have hcU := (hbrU.cell (p := ⟨g, i, none⟩) (cell_lt hcel)).trans hcel
            have v0 : U.cell? ⟨w8.heap.size, 0, none⟩ = some (.int .i64 y) := by rw [← hU]; exact cell_at rfl rfl
            have v1 : U.cell? ⟨w8.heap.size, 1, none⟩ = some (.int .i64 m) := by rw [← hU]; exact cell_at rfl rfl
            have v2 : U.cell? ⟨w8.heap.size, 2, none⟩ = some (.int .i64 d) := by rw [← hU]; exact cell_at rfl rfl
            have v3 : U.cell? ⟨w8.heap.size, 3, none⟩ = some (.int .i64 h) := by rw [← hU]; exact cell_at rfl rfl
            have v4 : U.cell? ⟨w8.heap.size, 4, none⟩ = some (.int .i64 mi) := by rw [← hU]; exact cell_at rfl rfl
            have v5 : U.cell? ⟨w8.heap.size, 5, none⟩ = some (.int .i64 s) := by rw [← hU]; exact cell_at rfl rfl
            have hMt := hidI2 (hMatH.out U (hpr.out.below hbrU) (hgr.out.below hbrU))
            have hb6U := hidI2 (hbH.out.trans (hbrU.mono hbH.out.size))
            clear hMH hMatH hb7 hb8 hbU hbrU kl kn hcel
            go_wp2_with (rw [hU])
            refine hMt.out.mono ?_
            rintro e w9 ⟨rfl, hb9⟩
            have hb69 := hidI2 (hb6U.out.trans (hb9.mono hb6U.out.size))
            clear hMt hb9 x0 x1 x2 x3 x4 x5 x6 v0 v1 v2 v3 v4 v5 hU klU hcU
            go_wp2_with fail
            exact ⟨⟨i + 1, by omega, hiT2.out, by rw [hnext.out], by go_num, hb69.out⟩, by simp [intOf]; omega⟩
        · obtain rfl : i = n := by omega
          have hltI : ¬ (i : Int) < (i : Int) := by omega
          have hli : ll = i := by have := hLl.out; have := hllH.out; omega
          generalize atI t T i = at' at *
          subst hli
          clear x0 x1 x2 x3 x4 x5 x6
          go_wp2_with fail
          go_ret
          exact ⟨rfl, hzr.out⟩
  · rw [decide_eq_false hfew] at hfw
    go_wp2_with fail
    refine hfw.mono ?_
    rintro e w2 ⟨rfl, hb2⟩
    have hz := hz1H.out.trans (hb2.mono hz1H.out.size)
    clear hfw hb2
    go_wp2_with fail
    go_ret
    exact ⟨rfl, hz⟩
end Go.Proofs.YtfjbonhlokbhpaaDoor
