import Derived.Test.YtehlnhljpdjppaaGreatDoorZR
import Derived.Deep.RegionHeld
import Derived.Test.YtehlnhljpdjppaaGreatDoorZS
import Derived.Test.YtehlnhljpdjppaaGreatDoorZI
import Derived.Test.YtehlnhljpdjppaaGreatDoorZC
/- The contract of the reference's Next. -/
namespace Go.Proofs.YtehlnhljpdjppaaGreatDoor
open Go.RowKit
set_option maxRecDepth 100000 in
set_option maxHeartbeats 400000 in
theorem rnext_lo (S : Nat → Sl) (c : Cal.C7) (t : Int) (w : World) (hp : CalPin (fun _ => False) w S c) (hIs : isB c = true) (hm1 : t < -1) (t0 : -9223372036854775808 ≤ t) :
    Calls Tryz.prog 7 #[aggC S, .int .i64 t] w fun e w' => Hid (e = .returned (.tuple #[.int .i64 ((Cal.nx c t).getD 0), .bool (Cal.nx c t).isSome]) ∧ Below w.heap.size w w') := by
  obtain ⟨W, hW⟩ : ∃ W, w.alloc (.cells #[slv (S 0), slv (S 1), slv (S 2), slv (S 3), slv (S 4), slv (S 5), slv (S 6)] 24) = W := ⟨_, rfl⟩
  have hB : Hid (Below w.heap.size w W) := by show Below _ _ _; rw [← hW]; exact (Below.refl _ _).alloc (Nat.le_refl _) _
  have hk : Hid (∀ j u, #[slv (S 0), slv (S 1), slv (S 2), slv (S 3), slv (S 4), slv (S 5), slv (S 6)][j]? = some u → W.cell? ⟨w.heap.size, j, none⟩ = some u) := fun j u hj => by rw [← hW]; exact cell_at rfl hj
  have c0 := hk.out 0 _ rfl
  have c1 := hk.out 1 _ rfl
  have c2 := hk.out 2 _ rfl
  have c3 := hk.out 3 _ rfl
  have c4 := hk.out 4 _ rfl
  have c5 := hk.out 5 _ rfl
  have c6 := hk.out 6 _ rfl
  have hlt : w.heap.size < W.heap.size := cell_lt c0
  have hI0 := rIsC_any S c W (hp.below hB.out)
  rw [hIs] at hI0
  have hI := hidI2 hI0
  have hpH := hidI2 hp
  have hok := isB_ok hIs
  clear hp hI0 hIs
  obtain ⟨f, hf⟩ : ∃ f, max t (-1) + 1 = f := ⟨_, rfl⟩
  have none_out : Hid ((∀ x, f ≤ x → x < 7289654400 → Cal.mt c x = false) → ∀ w', Below w.heap.size w w' → (Ending.returned (.tuple #[.int .i64 0, .bool false]) = Ending.returned (.tuple #[.int .i64 ((Cal.nx c t).getD 0), .bool (Cal.nx c t).isSome]) ∧ Below w.heap.size w w')) := fun h w' hb => by
    have h2 : Cal.nx c t = none := Cal.nx_none.2 (fun x h5 h6 => h x (by omega) h6)
    rw [h2]; exact ⟨rfl, hb⟩
  have some_out : Hid (∀ n, f ≤ n ∧ n < 7289654400 ∧ Cal.mt c n = true ∧ (∀ x, f ≤ x → x < n → Cal.mt c x = false) → ∀ w', Below w.heap.size w w' → (Ending.returned (.tuple #[.int .i64 n, .bool true]) = Ending.returned (.tuple #[.int .i64 ((Cal.nx c t).getD 0), .bool (Cal.nx c t).isSome]) ∧ Below w.heap.size w w')) := fun n h w' hb => by
    have h2 : Cal.nx c t = some n := Cal.nx_some.2 ⟨⟨by omega, h.2.1, h.2.2.1⟩, fun x h5 h6 => h.2.2.2 x (by omega) h6⟩
    rw [h2]; exact ⟨rfl, hb⟩
  go_enter Tryz.func7, Tryz.ntmps7
  go_wp2_with (rw [hW])
  refine hI.out.mono ?_
  rintro e w1 ⟨rfl, hb1⟩
  have hz1 := hidI2 (hB.out.trans (hb1.mono hB.out.size))
  have hk1 : Hid (∀ j u, #[slv (S 0), slv (S 1), slv (S 2), slv (S 3), slv (S 4), slv (S 5), slv (S 6)][j]? = some u → w1.cell? ⟨w.heap.size, j, none⟩ = some u) := fun j u hj => (hb1.cell (p := ⟨w.heap.size, j, none⟩) hlt).trans (hk.out j u hj)
  have hs1 : Hid (w.heap.size < w1.heap.size) := Nat.lt_of_lt_of_le hlt hb1.size
  clear hI hb1 c0 c1 c2 c3 c4 c5 c6 hW hB hk hlt
  obtain rfl : f = 0 := by omega
  have hDt : ∀ W, Hid (Calls Tryz.prog 16 #[.int .i64 0] W fun e w' => (∃ y m d er : Int, e = .returned (.tuple #[.agg #[.int .i64 y, .int .i64 m, .int .i64 d], .int .i64 er]) ∧ Hid (NS c 0 0 er y m d)) ∧ Below W.heap.size W w') := fun W => rDate_ns W (by omega) (by omega) (by omega)
  have hfd : Hid (∀ y m d : Int, Civ.num y m d = 0 → frm 0 (Civ.num y m d) = 0) := fun y m d h => by unfold frm; rw [h]; rfl
  have hfn : Hid (∀ y m d : Int, ¬ Civ.num y m d = 0 → frm 0 (Civ.num y m d) = 0) := fun y m d h => by unfold frm; rw [if_neg (by simpa using h)]
  have hqn : Hid (∀ day, (0 : Int) / 86400 ≤ day → 0 ≤ day) := fun day h => by omega
  clear hf
  go_wp2_with fail
  refine (hDt _).out.mono ?_
  rintro e w2 ⟨⟨y9, m9, d9, er, rfl, hns⟩, hb2⟩
  have hz2 := hidI2 (hz1.out.trans (hb2.mono hz1.out.size))
  have hlt2 : Hid (w.heap.size < w2.heap.size) := Nat.lt_of_lt_of_le hs1.out hb2.size
  obtain ⟨W3, hW3⟩ : ∃ W3, w2.alloc (.cells #[.int .i64 y9, .int .i64 m9, .int .i64 d9] 26) = W3 := ⟨_, rfl⟩
  have hN : Hid (NC w w.heap.size w2.heap.size S c y9 m9 d9 W3) := by
    show NC _ _ _ _ _ _ _ _ _
    have hbe : Below w2.heap.size w2 W3 := by rw [← hW3]; exact (Below.refl _ _).alloc (Nat.le_refl _) _
    have hz3 := hz2.out.trans (hbe.mono hz2.out.size)
    have hc : ∀ j u, #[slv (S 0), slv (S 1), slv (S 2), slv (S 3), slv (S 4), slv (S 5), slv (S 6)][j]? = some u → W3.cell? ⟨w.heap.size, j, none⟩ = some u := fun j u hj => (hbe.cell (p := ⟨w.heap.size, j, none⟩) hlt2.out).trans ((hb2.cell (p := ⟨w.heap.size, j, none⟩) hs1.out).trans (hk1.out j u hj))
    refine ⟨hc 0 _ rfl, hc 1 _ rfl, hc 2 _ rfl, hc 3 _ rfl, hc 4 _ rfl, hc 5 _ rfl, hc 6 _ rfl, ?_, hpH.out.below hz3, hz3⟩
    rw [← hW3]; exact heap_alloc_new w2 _
  clear hb2 hDt hk1 hz1 hs1
  go_wp2_with (rw [hW3])
  go_loopw [7, 9] (fun a b wr => ∃ day e y m d : Int, a = .int .i64 day ∧ b = .int .i64 e ∧ Hid (NS c 0 day e y m d) ∧ Hid (NC w w.heap.size w2.heap.size S c y m d wr)) (fun a _ _ => (85000 - intOf a).toNat)
  case atStart => exact ⟨_, _, _, _, _, rfl, rfl, hns, hN⟩
  case round =>
    obtain ⟨day, e, y, m, d, rfl, rfl, hns', hNr⟩ := hrel
    clear hns hN hz2
    rcases hns'.out with ⟨he, hv, hn, hqd, hno⟩ | ⟨he, hno⟩
    · subst he
      have hdb := Civ.num_bd hv
      obtain ⟨y0, y1, m0, m1, d0, d1⟩ := Civ.vldB_iff.1 hv
      have hdm := Civ.dim_bd y m
      have d2 : d ≤ 31 := by omega
      have hd0 : 0 ≤ day := by omega
      have hd1 : day < 84371 := by omega
      have hvH := hidI2 hv
      have hnH := hidI2 hn
      have hnoH := hidI2 hno
      have hqdH := hidI2 hqd
      have k0 := hNr.out.c0
      have k1 := hNr.out.c1
      have k2 := hNr.out.c2
      have k3 := hNr.out.c3
      have k4 := hNr.out.c4
      have k5 := hNr.out.c5
      have k6 := hNr.out.c6
      have x0 : wr.cell? ⟨w2.heap.size, 0, none⟩ = some (.int .i64 y) := cells_of hNr.out.h8 (j := 0) rfl
      have hfr : Hid (∀ fr, frm 0 day = fr → 0 ≤ fr ∧ fr < 86400) := fun fr h => by subst h; unfold frm; split <;> omega
      have hday0 : (∀ x, 0 ≤ x → day * 86400 ≤ x → x < day * 86400 + 86400 → Cal.mt c x = false) → NS c 0 (day + 1) (if 2200 < (tmD y m d).1 then 30 else 0) (tmD y m d).1 (tmD y m d).2.1 (tmD y m d).2.2 := fun h => by
        have h2 := NS.day (c := c) (f := 0) hv (by rw [hn]; exact hqd) (by rw [hn]; exact hno) (by rw [hn]; exact h)
        rw [hn] at h2
        exact h2
      have hyear0 : Cal.inL c.year y = false → NS c 0 (Civ.dby (y + 1)) (if 2200 < y + 1 then 30 else 0) (y + 1) 1 1 := fun h => NS.year hv h (by rw [hn]; exact hqd) (by rw [hn]; exact hno)
      have hdn0 : dtB c y m d day = false → ∀ x, 0 ≤ x → day * 86400 ≤ x → x < day * 86400 + 86400 → Cal.mt c x = false := fun h => by
        have h2 := day_no (c := c) (f := 0) hv (by rw [hn]; exact h)
        rw [hn] at h2
        exact h2
      have hdt0 : (∀ x, frm 0 day ≤ x → x < 86400 → tmB c x = false) → ∀ x, 0 ≤ x → day * 86400 ≤ x → x < day * 86400 + 86400 → Cal.mt c x = false := fun h => by
        have h2 := day_time (c := c) (f := 0) hv (by rw [hn]; exact h)
        rw [hn] at h2
        exact h2
      have hhit0 : ∀ r', dtB c y m d day = true → frm 0 day ≤ r' → r' < 86400 → tmB c r' = true → (∀ x, frm 0 day ≤ x → x < r' → tmB c x = false) → 0 ≤ day * 86400 + r' ∧ day * 86400 + r' < 7289654400 ∧ Cal.mt c (day * 86400 + r') = true ∧ ∀ x, 0 ≤ x → x < day * 86400 + r' → Cal.mt c x = false := fun r' h1 h2 h3 h4 h5 => by
        have h6 := day_hit (c := c) (f := 0) (r := r') hv (by rw [hn]; exact hqd) (by rw [hn]; exact hno) (by rw [hn]; exact h1) (by rw [hn]; exact h2) h3 h4 (by rw [hn]; exact h5)
        rw [hn] at h6
        exact h6
      have htom0 := fun W => rtom_any y m d W hv
      have hrest0 := fun W => rrest_any y m d W hv
      rw [hn] at hrest0
      obtain ⟨y', hy'⟩ : ∃ y', (tmD y m d).1 = y' := ⟨_, rfl⟩
      obtain ⟨m', hm'⟩ : ∃ m', (tmD y m d).2.1 = m' := ⟨_, rfl⟩
      obtain ⟨d', hd'⟩ : ∃ d', (tmD y m d).2.2 = d' := ⟨_, rfl⟩
      rw [hy', hm', hd'] at hday0 htom0
      have hyb : Hid (y' ≤ 2201) := by show y' ≤ 2201; have := (tm_num hv).2.2.2; rw [hy'] at this; omega
      have hrb : Civ.dby (y + 1) ≤ 84371 := (Civ.dby_bd (by omega) (by omega)).2
      have hrc : day < Civ.dby (y + 1) := by rw [← hn]; exact hdb.2.2.2
      obtain ⟨rs, hrs⟩ : ∃ rs, Civ.dby (y + 1) - day = rs := ⟨_, rfl⟩
      have hD : Civ.dby (y + 1) = day + rs := by omega
      rw [hrs] at hrest0
      rw [hD] at hyear0 hrb
      have hrs0 : 0 < rs := by omega
      have hday := hidI2 hday0
      have hyear := hidI2 hyear0
      have hdn := hidI2 hdn0
      have hdt := hidI2 hdt0
      have hhit := hidI2 hhit0
      have htom := hidI2 htom0
      have hrest := hidI2 hrest0
      have hIn0 := rIn_any c.year y _ wr hNr.out.p.p1 hok.o1 (by omega) (by omega)
      have hDate0 := fun W (h : CalPin (fun _ => False) W S c) => rdate_any S c y m d day W h hok (by omega) (by omega) (by omega) (by omega) (by omega) (by omega)
      have hDate := hidI2 hDate0
      have hTime0 := fun fr (h0 : 0 ≤ fr) (h1 : fr < 86400) W (h : CalPin (fun _ => False) W S c) => rtime_any S c fr W h hok h0 h1
      have hTime := hidI2 hTime0
      clear hns' hdb d1 hdm hv hn hno hqd hday0 hyear0 hdn0 hdt0 hhit0 htom0 hrest0 hD hrc hrs hDate0 hTime0 hy' hm' hd'
      cases hyr : Cal.inL c.year y with
      | false =>
        rw [hyr] at hIn0
        have hIn := hidI2 hIn0
        have hyrn := hidI2 (hyear.out hyr)
        clear hIn0 hyr hyear
        by_cases hdq : day = 0
        · subst hdq
          go_wp2_with fail
          refine hIn.out.mono ?_
          rintro e w4 ⟨rfl, hb4⟩
          have hN4 := hidI2 (hNr.out.next hb4)
          clear hb4 hIn x0 k0 k1 k2 k3 k4 k5 k6
          go_upto_region 15 with fail
          refine wp_region_held_drew (S := fun _ => True) (by kernel_rfl) trivial (fun hHeld => ?_)
          clear hHeld
          have hND := hidI2 (hN4.out.next (Below.refl _ w4).drew)
          have hwr : IntKind.i64.wrap rs = rs := by rw [IntKind.wrap_i64]; omega
          refine wpAnyH_take (i := 0) (oi := ⟨some 42, _, _, _, _, _⟩) (v := ?v0) rfl (by kernel_rfl) (by kernel_rfl) (by kernel_rfl) (fun _ _ _ h => h) (Or.inl ⟨by rfl, ?hy0⟩) trivial ?_
          case hy0 => (intro w hSw; go_simp; try with_reducible rfl)
          simp only [Act.put, List.setIfInBounds_toArray, List.set_cons_zero, List.set_cons_succ]
          refine wpAnyH_take (i := 4) (oi := ⟨some 46, _, _, _, _, _⟩) (v := ?v4) rfl (by kernel_rfl) (by kernel_rfl) (by kernel_rfl) (fun _ _ _ h => h) (Or.inl ⟨by rfl, ?hy4⟩) trivial ?_
          case hy4 => (intro w hSw; go_simp; try with_reducible rfl)
          simp only [Act.put, List.setIfInBounds_toArray, List.set_cons_zero, List.set_cons_succ]
          refine wpAnyH_ready (rs := [1, 5]) (by kernel_rfl) (by simp) ?_
          refine AllReadyH.cons (o := ⟨some 43, _, _, _, _, _⟩) rfl (fun K hK => ?_) ?_
          · have z0 : w4.drew.cell? ⟨w2.heap.size, 0, none⟩ = some (.int .i64 y) := cells_of hND.out.h8 (j := 0) rfl
            have z1 : w4.drew.cell? ⟨w2.heap.size, 1, none⟩ = some (.int .i64 m) := cells_of hND.out.h8 (j := 1) rfl
            have z2 : w4.drew.cell? ⟨w2.heap.size, 2, none⟩ = some (.int .i64 d) := cells_of hND.out.h8 (j := 2) rfl
            go_simp
            refine hK.out _ _ trivial (fun _ => ?_)
            clear hK K
            clear z0 z1 z2
            try simp only [Act.put, List.setIfInBounds_toArray, List.set_cons_zero, List.set_cons_succ]
            refine wpAnyH_ready (rs := [2, 5]) (by kernel_rfl) (by simp) ?_
            refine AllReadyH.cons (o := ⟨some 44, _, _, _, _, _⟩) rfl (fun K hK => ?_) ?_
            · go_simp
              refine (hrest.out _).mono ?_
              rintro e w5 ⟨rfl, hb5⟩
              have hN5 := hidI2 (hND.out.next hb5)
              clear hb5
              go_wp2_with fail
              refine hK.out _ _ trivial (fun _ => ?_)
              clear hK K
              try simp only [Act.put, List.setIfInBounds_toArray, List.set_cons_zero, List.set_cons_succ]
              refine wpAnyH_take (i := 3) (oi := ⟨some 45, _, _, _, _, _⟩) (v := ?v3) rfl (by kernel_rfl) (by kernel_rfl) (by kernel_rfl) (fun _ _ _ h => h) (Or.inl ⟨by rfl, ?hy3⟩) trivial ?_
              case hy3 => (intro w hSw; go_simp; try with_reducible rfl)
              simp only [Act.put, List.setIfInBounds_toArray, List.set_cons_zero, List.set_cons_succ]
              refine wpAnyH_take (i := 8) (oi := ⟨some 7, _, _, _, _, _⟩) (v := ?v8) rfl (by kernel_rfl) (by kernel_rfl) (by kernel_rfl) (fun _ _ _ h => h) (Or.inl ⟨by rfl, ?hy8⟩) trivial ?_
              case hy8 => (intro w hSw; go_simp; try with_reducible rfl)
              simp only [Act.put, List.setIfInBounds_toArray, List.set_cons_zero, List.set_cons_succ]
              refine wpAnyH_ready (rs := [5]) (by kernel_rfl) (by simp) ?_
              refine AllReadyH.cons (o := ⟨some 47, _, _, _, _, _⟩) rfl (fun K hK => ?_) AllReadyH.nil
              have z0 : w5.cell? ⟨w2.heap.size, 0, none⟩ = some (.int .i64 y) := cells_of hN5.out.h8 (j := 0) rfl
              have z1 : w5.cell? ⟨w2.heap.size, 1, none⟩ = some (.int .i64 m) := cells_of hN5.out.h8 (j := 1) rfl
              have z2 : w5.cell? ⟨w2.heap.size, 2, none⟩ = some (.int .i64 d) := cells_of hN5.out.h8 (j := 2) rfl
              go_simp
              refine hK.out _ _ trivial (fun _ => ?_)
              clear hK K
              clear z0 z1 z2
              try simp only [Act.put, List.setIfInBounds_toArray, List.set_cons_zero, List.set_cons_succ]
              refine wpAnyH_take (i := 6) (oi := ⟨some 48, _, _, _, _, _⟩) (v := ?v6) rfl (by kernel_rfl) (by kernel_rfl) (by kernel_rfl) (fun _ _ _ h => h) (Or.inl ⟨by rfl, ?hy6⟩) trivial ?_
              case hy6 => (intro w hSw; go_simp; try with_reducible rfl)
              simp only [Act.put, List.setIfInBounds_toArray, List.set_cons_zero, List.set_cons_succ]
              refine wpAnyH_take (i := 7) (oi := ⟨some 49, _, _, _, _, _⟩) (v := ?v7) rfl (by kernel_rfl) (by kernel_rfl) (by kernel_rfl) (fun _ _ _ h => h) (Or.inl ⟨by rfl, ?hy7⟩) trivial ?_
              case hy7 => (intro w hSw; go_simp; try with_reducible rfl)
              simp only [Act.put, List.setIfInBounds_toArray, List.set_cons_zero, List.set_cons_succ]
              refine wpAnyH_ready (rs := [9]) (by kernel_rfl) (by simp) ?_
              refine AllReadyH.cons (o := ⟨none, _, _, _, _, _⟩) rfl (fun K hK => ?_) AllReadyH.nil
              have q0 : w5.cell? ⟨w2.heap.size, 0, none⟩ = some (.int .i64 y) := cells_of hN5.out.h8 (j := 0) rfl
              have q1 : w5.cell? ⟨w2.heap.size, 1, none⟩ = some (.int .i64 m) := cells_of hN5.out.h8 (j := 1) rfl
              have q2 : w5.cell? ⟨w2.heap.size, 2, none⟩ = some (.int .i64 d) := cells_of hN5.out.h8 (j := 2) rfl
              have qf0 : w5.frozen? ⟨w2.heap.size, 0, none⟩ = false := froz_of hN5.out.h8 (j := 0)
              have qf1 : w5.frozen? ⟨w2.heap.size, 1, none⟩ = false := froz_of hN5.out.h8 (j := 1)
              have qf2 : w5.frozen? ⟨w2.heap.size, 2, none⟩ = false := froz_of hN5.out.h8 (j := 2)
              go_simp
              refine hK.out _ _ trivial (fun _ => ?_)
              clear hK K
              refine wpAnyH_done (by kernel_rfl) ?_ _
              obtain ⟨V2, hV2⟩ : ∃ V2, ((w5.setCell ⟨w2.heap.size, 0, none⟩ (.int .i64 (y + 1))).setCell ⟨w2.heap.size, 1, none⟩ (.int .i64 1)).setCell ⟨w2.heap.size, 2, none⟩ (.int .i64 1) = V2 := ⟨_, rfl⟩
              have hN9 := hidI2 (hN5.out.set hpH.out (Nat.le_of_lt hlt2.out) (Nat.ne_of_lt hlt2.out) ((y + 1)) 1 1 hV2)
              have v0 : V2.cell? ⟨w2.heap.size, 0, none⟩ = some (.int .i64 ((y + 1))) := cells_of hN9.out.h8 (j := 0) rfl
              clear hNr hN4 hND
              by_cases hg : 2200 < y + 1
              · have hnx2 := hyrn.out
                rw [if_pos hg] at hnx2
                have hnx3 := hidI2 hnx2
                clear hnx2
                go_wp2_with (rw [hV2])
                exact ⟨⟨0 + rs, 30, y + 1, 1, 1, by first | rfl | rw [hwr] | go_num | simp, rfl, hnx3, hN9⟩, by first | (simp [intOf]; omega) | (simp [intOf, hwr]; omega)⟩
              · have hnx2 := hyrn.out
                rw [if_neg hg] at hnx2
                have hnx3 := hidI2 hnx2
                clear hnx2
                go_wp2_with (rw [hV2])
                exact ⟨⟨0 + rs, 0, y + 1, 1, 1, by first | rfl | rw [hwr] | go_num | simp, rfl, hnx3, hN9⟩, by first | (simp [intOf]; omega) | (simp [intOf, hwr]; omega)⟩
            refine AllReadyH.cons (o := ⟨some 47, _, _, _, _, _⟩) rfl (fun K hK => ?_) AllReadyH.nil
            have z0 : w4.drew.cell? ⟨w2.heap.size, 0, none⟩ = some (.int .i64 y) := cells_of hND.out.h8 (j := 0) rfl
            have z1 : w4.drew.cell? ⟨w2.heap.size, 1, none⟩ = some (.int .i64 m) := cells_of hND.out.h8 (j := 1) rfl
            have z2 : w4.drew.cell? ⟨w2.heap.size, 2, none⟩ = some (.int .i64 d) := cells_of hND.out.h8 (j := 2) rfl
            go_simp
            refine hK.out _ _ trivial (fun _ => ?_)
            clear hK K
            clear z0 z1 z2
            try simp only [Act.put, List.setIfInBounds_toArray, List.set_cons_zero, List.set_cons_succ]
            refine wpAnyH_take (i := 6) (oi := ⟨some 48, _, _, _, _, _⟩) (v := ?v6) rfl (by kernel_rfl) (by kernel_rfl) (by kernel_rfl) (fun _ _ _ h => h) (Or.inl ⟨by rfl, ?hy6⟩) trivial ?_
            case hy6 => (intro w hSw; go_simp; try with_reducible rfl)
            simp only [Act.put, List.setIfInBounds_toArray, List.set_cons_zero, List.set_cons_succ]
            refine wpAnyH_take (i := 7) (oi := ⟨some 49, _, _, _, _, _⟩) (v := ?v7) rfl (by kernel_rfl) (by kernel_rfl) (by kernel_rfl) (fun _ _ _ h => h) (Or.inl ⟨by rfl, ?hy7⟩) trivial ?_
            case hy7 => (intro w hSw; go_simp; try with_reducible rfl)
            simp only [Act.put, List.setIfInBounds_toArray, List.set_cons_zero, List.set_cons_succ]
            refine wpAnyH_ready (rs := [2]) (by kernel_rfl) (by simp) ?_
            refine AllReadyH.cons (o := ⟨some 44, _, _, _, _, _⟩) rfl (fun K hK => ?_) AllReadyH.nil
            go_simp
            refine (hrest.out _).mono ?_
            rintro e w5 ⟨rfl, hb5⟩
            have hN5 := hidI2 (hND.out.next hb5)
            clear hb5
            go_wp2_with fail
            refine hK.out _ _ trivial (fun _ => ?_)
            clear hK K
            try simp only [Act.put, List.setIfInBounds_toArray, List.set_cons_zero, List.set_cons_succ]
            refine wpAnyH_take (i := 3) (oi := ⟨some 45, _, _, _, _, _⟩) (v := ?v3) rfl (by kernel_rfl) (by kernel_rfl) (by kernel_rfl) (fun _ _ _ h => h) (Or.inl ⟨by rfl, ?hy3⟩) trivial ?_
            case hy3 => (intro w hSw; go_simp; try with_reducible rfl)
            simp only [Act.put, List.setIfInBounds_toArray, List.set_cons_zero, List.set_cons_succ]
            refine wpAnyH_take (i := 8) (oi := ⟨some 7, _, _, _, _, _⟩) (v := ?v8) rfl (by kernel_rfl) (by kernel_rfl) (by kernel_rfl) (fun _ _ _ h => h) (Or.inl ⟨by rfl, ?hy8⟩) trivial ?_
            case hy8 => (intro w hSw; go_simp; try with_reducible rfl)
            simp only [Act.put, List.setIfInBounds_toArray, List.set_cons_zero, List.set_cons_succ]
            refine wpAnyH_ready (rs := [9]) (by kernel_rfl) (by simp) ?_
            refine AllReadyH.cons (o := ⟨none, _, _, _, _, _⟩) rfl (fun K hK => ?_) AllReadyH.nil
            have q0 : w5.cell? ⟨w2.heap.size, 0, none⟩ = some (.int .i64 y) := cells_of hN5.out.h8 (j := 0) rfl
            have q1 : w5.cell? ⟨w2.heap.size, 1, none⟩ = some (.int .i64 m) := cells_of hN5.out.h8 (j := 1) rfl
            have q2 : w5.cell? ⟨w2.heap.size, 2, none⟩ = some (.int .i64 d) := cells_of hN5.out.h8 (j := 2) rfl
            have qf0 : w5.frozen? ⟨w2.heap.size, 0, none⟩ = false := froz_of hN5.out.h8 (j := 0)
            have qf1 : w5.frozen? ⟨w2.heap.size, 1, none⟩ = false := froz_of hN5.out.h8 (j := 1)
            have qf2 : w5.frozen? ⟨w2.heap.size, 2, none⟩ = false := froz_of hN5.out.h8 (j := 2)
            go_simp
            refine hK.out _ _ trivial (fun _ => ?_)
            clear hK K
            refine wpAnyH_done (by kernel_rfl) ?_ _
            obtain ⟨V2, hV2⟩ : ∃ V2, ((w5.setCell ⟨w2.heap.size, 0, none⟩ (.int .i64 (y + 1))).setCell ⟨w2.heap.size, 1, none⟩ (.int .i64 1)).setCell ⟨w2.heap.size, 2, none⟩ (.int .i64 1) = V2 := ⟨_, rfl⟩
            have hN9 := hidI2 (hN5.out.set hpH.out (Nat.le_of_lt hlt2.out) (Nat.ne_of_lt hlt2.out) ((y + 1)) 1 1 hV2)
            have v0 : V2.cell? ⟨w2.heap.size, 0, none⟩ = some (.int .i64 ((y + 1))) := cells_of hN9.out.h8 (j := 0) rfl
            clear hNr hN4 hND
            by_cases hg : 2200 < y + 1
            · have hnx2 := hyrn.out
              rw [if_pos hg] at hnx2
              have hnx3 := hidI2 hnx2
              clear hnx2
              go_wp2_with (rw [hV2])
              exact ⟨⟨0 + rs, 30, y + 1, 1, 1, by first | rfl | rw [hwr] | go_num | simp, rfl, hnx3, hN9⟩, by first | (simp [intOf]; omega) | (simp [intOf, hwr]; omega)⟩
            · have hnx2 := hyrn.out
              rw [if_neg hg] at hnx2
              have hnx3 := hidI2 hnx2
              clear hnx2
              go_wp2_with (rw [hV2])
              exact ⟨⟨0 + rs, 0, y + 1, 1, 1, by first | rfl | rw [hwr] | go_num | simp, rfl, hnx3, hN9⟩, by first | (simp [intOf]; omega) | (simp [intOf, hwr]; omega)⟩
          refine AllReadyH.cons (o := ⟨some 47, _, _, _, _, _⟩) rfl (fun K hK => ?_) AllReadyH.nil
          have z0 : w4.drew.cell? ⟨w2.heap.size, 0, none⟩ = some (.int .i64 y) := cells_of hND.out.h8 (j := 0) rfl
          have z1 : w4.drew.cell? ⟨w2.heap.size, 1, none⟩ = some (.int .i64 m) := cells_of hND.out.h8 (j := 1) rfl
          have z2 : w4.drew.cell? ⟨w2.heap.size, 2, none⟩ = some (.int .i64 d) := cells_of hND.out.h8 (j := 2) rfl
          go_simp
          refine hK.out _ _ trivial (fun _ => ?_)
          clear hK K
          clear z0 z1 z2
          try simp only [Act.put, List.setIfInBounds_toArray, List.set_cons_zero, List.set_cons_succ]
          refine wpAnyH_take (i := 6) (oi := ⟨some 48, _, _, _, _, _⟩) (v := ?v6) rfl (by kernel_rfl) (by kernel_rfl) (by kernel_rfl) (fun _ _ _ h => h) (Or.inl ⟨by rfl, ?hy6⟩) trivial ?_
          case hy6 => (intro w hSw; go_simp; try with_reducible rfl)
          simp only [Act.put, List.setIfInBounds_toArray, List.set_cons_zero, List.set_cons_succ]
          refine wpAnyH_take (i := 7) (oi := ⟨some 49, _, _, _, _, _⟩) (v := ?v7) rfl (by kernel_rfl) (by kernel_rfl) (by kernel_rfl) (fun _ _ _ h => h) (Or.inl ⟨by rfl, ?hy7⟩) trivial ?_
          case hy7 => (intro w hSw; go_simp; try with_reducible rfl)
          simp only [Act.put, List.setIfInBounds_toArray, List.set_cons_zero, List.set_cons_succ]
          refine wpAnyH_ready (rs := [1]) (by kernel_rfl) (by simp) ?_
          refine AllReadyH.cons (o := ⟨some 43, _, _, _, _, _⟩) rfl (fun K hK => ?_) AllReadyH.nil
          have z0 : w4.drew.cell? ⟨w2.heap.size, 0, none⟩ = some (.int .i64 y) := cells_of hND.out.h8 (j := 0) rfl
          have z1 : w4.drew.cell? ⟨w2.heap.size, 1, none⟩ = some (.int .i64 m) := cells_of hND.out.h8 (j := 1) rfl
          have z2 : w4.drew.cell? ⟨w2.heap.size, 2, none⟩ = some (.int .i64 d) := cells_of hND.out.h8 (j := 2) rfl
          go_simp
          refine hK.out _ _ trivial (fun _ => ?_)
          clear hK K
          clear z0 z1 z2
          try simp only [Act.put, List.setIfInBounds_toArray, List.set_cons_zero, List.set_cons_succ]
          refine wpAnyH_ready (rs := [2]) (by kernel_rfl) (by simp) ?_
          refine AllReadyH.cons (o := ⟨some 44, _, _, _, _, _⟩) rfl (fun K hK => ?_) AllReadyH.nil
          go_simp
          refine (hrest.out _).mono ?_
          rintro e w5 ⟨rfl, hb5⟩
          have hN5 := hidI2 (hND.out.next hb5)
          clear hb5
          go_wp2_with fail
          refine hK.out _ _ trivial (fun _ => ?_)
          clear hK K
          try simp only [Act.put, List.setIfInBounds_toArray, List.set_cons_zero, List.set_cons_succ]
          refine wpAnyH_take (i := 3) (oi := ⟨some 45, _, _, _, _, _⟩) (v := ?v3) rfl (by kernel_rfl) (by kernel_rfl) (by kernel_rfl) (fun _ _ _ h => h) (Or.inl ⟨by rfl, ?hy3⟩) trivial ?_
          case hy3 => (intro w hSw; go_simp; try with_reducible rfl)
          simp only [Act.put, List.setIfInBounds_toArray, List.set_cons_zero, List.set_cons_succ]
          refine wpAnyH_take (i := 8) (oi := ⟨some 7, _, _, _, _, _⟩) (v := ?v8) rfl (by kernel_rfl) (by kernel_rfl) (by kernel_rfl) (fun _ _ _ h => h) (Or.inl ⟨by rfl, ?hy8⟩) trivial ?_
          case hy8 => (intro w hSw; go_simp; try with_reducible rfl)
          simp only [Act.put, List.setIfInBounds_toArray, List.set_cons_zero, List.set_cons_succ]
          refine wpAnyH_ready (rs := [9]) (by kernel_rfl) (by simp) ?_
          refine AllReadyH.cons (o := ⟨none, _, _, _, _, _⟩) rfl (fun K hK => ?_) AllReadyH.nil
          have q0 : w5.cell? ⟨w2.heap.size, 0, none⟩ = some (.int .i64 y) := cells_of hN5.out.h8 (j := 0) rfl
          have q1 : w5.cell? ⟨w2.heap.size, 1, none⟩ = some (.int .i64 m) := cells_of hN5.out.h8 (j := 1) rfl
          have q2 : w5.cell? ⟨w2.heap.size, 2, none⟩ = some (.int .i64 d) := cells_of hN5.out.h8 (j := 2) rfl
          have qf0 : w5.frozen? ⟨w2.heap.size, 0, none⟩ = false := froz_of hN5.out.h8 (j := 0)
          have qf1 : w5.frozen? ⟨w2.heap.size, 1, none⟩ = false := froz_of hN5.out.h8 (j := 1)
          have qf2 : w5.frozen? ⟨w2.heap.size, 2, none⟩ = false := froz_of hN5.out.h8 (j := 2)
          go_simp
          refine hK.out _ _ trivial (fun _ => ?_)
          clear hK K
          refine wpAnyH_done (by kernel_rfl) ?_ _
          obtain ⟨V2, hV2⟩ : ∃ V2, ((w5.setCell ⟨w2.heap.size, 0, none⟩ (.int .i64 (y + 1))).setCell ⟨w2.heap.size, 1, none⟩ (.int .i64 1)).setCell ⟨w2.heap.size, 2, none⟩ (.int .i64 1) = V2 := ⟨_, rfl⟩
          have hN9 := hidI2 (hN5.out.set hpH.out (Nat.le_of_lt hlt2.out) (Nat.ne_of_lt hlt2.out) ((y + 1)) 1 1 hV2)
          have v0 : V2.cell? ⟨w2.heap.size, 0, none⟩ = some (.int .i64 ((y + 1))) := cells_of hN9.out.h8 (j := 0) rfl
          clear hNr hN4 hND
          by_cases hg : 2200 < y + 1
          · have hnx2 := hyrn.out
            rw [if_pos hg] at hnx2
            have hnx3 := hidI2 hnx2
            clear hnx2
            go_wp2_with (rw [hV2])
            exact ⟨⟨0 + rs, 30, y + 1, 1, 1, by first | rfl | rw [hwr] | go_num | simp, rfl, hnx3, hN9⟩, by first | (simp [intOf]; omega) | (simp [intOf, hwr]; omega)⟩
          · have hnx2 := hyrn.out
            rw [if_neg hg] at hnx2
            have hnx3 := hidI2 hnx2
            clear hnx2
            go_wp2_with (rw [hV2])
            exact ⟨⟨0 + rs, 0, y + 1, 1, 1, by first | rfl | rw [hwr] | go_num | simp, rfl, hnx3, hN9⟩, by first | (simp [intOf]; omega) | (simp [intOf, hwr]; omega)⟩
        · go_wp2_with fail
          refine hIn.out.mono ?_
          rintro e w4 ⟨rfl, hb4⟩
          have hN4 := hidI2 (hNr.out.next hb4)
          clear hb4 hIn x0 k0 k1 k2 k3 k4 k5 k6
          go_upto_region 15 with fail
          refine wp_region_held_drew (S := fun _ => True) (by kernel_rfl) trivial (fun hHeld => ?_)
          clear hHeld
          have hND := hidI2 (hN4.out.next (Below.refl _ w4).drew)
          have hwr : IntKind.i64.wrap (day + rs) = day + rs := by rw [IntKind.wrap_i64]; omega
          refine wpAnyH_take (i := 0) (oi := ⟨some 42, _, _, _, _, _⟩) (v := Value.int .i64 day) rfl (by kernel_rfl) (by kernel_rfl) (by kernel_rfl) (fun _ _ _ h => h) (Or.inl ⟨by rfl, ?hy0⟩) trivial ?_
          case hy0 => (intro w hSw; go_simp; try with_reducible rfl)
          simp only [Act.put, List.setIfInBounds_toArray, List.set_cons_zero, List.set_cons_succ]
          refine wpAnyH_take (i := 4) (oi := ⟨some 46, _, _, _, _, _⟩) (v := ?v4) rfl (by kernel_rfl) (by kernel_rfl) (by kernel_rfl) (fun _ _ _ h => h) (Or.inl ⟨by rfl, ?hy4⟩) trivial ?_
          case hy4 => (intro w hSw; go_simp; try with_reducible rfl)
          simp only [Act.put, List.setIfInBounds_toArray, List.set_cons_zero, List.set_cons_succ]
          refine wpAnyH_ready (rs := [1, 5]) (by kernel_rfl) (by simp) ?_
          refine AllReadyH.cons (o := ⟨some 43, _, _, _, _, _⟩) rfl (fun K hK => ?_) ?_
          · have z0 : w4.drew.cell? ⟨w2.heap.size, 0, none⟩ = some (.int .i64 y) := cells_of hND.out.h8 (j := 0) rfl
            have z1 : w4.drew.cell? ⟨w2.heap.size, 1, none⟩ = some (.int .i64 m) := cells_of hND.out.h8 (j := 1) rfl
            have z2 : w4.drew.cell? ⟨w2.heap.size, 2, none⟩ = some (.int .i64 d) := cells_of hND.out.h8 (j := 2) rfl
            go_simp
            refine hK.out _ _ trivial (fun _ => ?_)
            clear hK K
            clear z0 z1 z2
            try simp only [Act.put, List.setIfInBounds_toArray, List.set_cons_zero, List.set_cons_succ]
            refine wpAnyH_ready (rs := [2, 5]) (by kernel_rfl) (by simp) ?_
            refine AllReadyH.cons (o := ⟨some 44, _, _, _, _, _⟩) rfl (fun K hK => ?_) ?_
            · go_simp
              refine (hrest.out _).mono ?_
              rintro e w5 ⟨rfl, hb5⟩
              have hN5 := hidI2 (hND.out.next hb5)
              clear hb5
              go_wp2_with fail
              refine hK.out _ _ trivial (fun _ => ?_)
              clear hK K
              try simp only [Act.put, List.setIfInBounds_toArray, List.set_cons_zero, List.set_cons_succ]
              refine wpAnyH_take (i := 3) (oi := ⟨some 45, _, _, _, _, _⟩) (v := Value.int .i64 (day + rs)) rfl (by kernel_rfl) (by kernel_rfl) (by kernel_rfl) (fun _ _ _ h => h) (Or.inl ⟨by rfl, ?hy3⟩) trivial ?_
              case hy3 => (intro w hSw; go_simp; try with_reducible rfl)
              simp only [Act.put, List.setIfInBounds_toArray, List.set_cons_zero, List.set_cons_succ]
              refine wpAnyH_take (i := 8) (oi := ⟨some 7, _, _, _, _, _⟩) (v := Value.int .i64 (day + rs)) rfl (by kernel_rfl) (by kernel_rfl) (by kernel_rfl) (fun _ _ _ h => h) (Or.inl ⟨by rfl, ?hy8⟩) trivial ?_
              case hy8 => (intro w hSw; go_simp; try with_reducible rfl)
              simp only [Act.put, List.setIfInBounds_toArray, List.set_cons_zero, List.set_cons_succ]
              refine wpAnyH_ready (rs := [5]) (by kernel_rfl) (by simp) ?_
              refine AllReadyH.cons (o := ⟨some 47, _, _, _, _, _⟩) rfl (fun K hK => ?_) AllReadyH.nil
              have z0 : w5.cell? ⟨w2.heap.size, 0, none⟩ = some (.int .i64 y) := cells_of hN5.out.h8 (j := 0) rfl
              have z1 : w5.cell? ⟨w2.heap.size, 1, none⟩ = some (.int .i64 m) := cells_of hN5.out.h8 (j := 1) rfl
              have z2 : w5.cell? ⟨w2.heap.size, 2, none⟩ = some (.int .i64 d) := cells_of hN5.out.h8 (j := 2) rfl
              go_simp
              refine hK.out _ _ trivial (fun _ => ?_)
              clear hK K
              clear z0 z1 z2
              try simp only [Act.put, List.setIfInBounds_toArray, List.set_cons_zero, List.set_cons_succ]
              refine wpAnyH_take (i := 6) (oi := ⟨some 48, _, _, _, _, _⟩) (v := ?v6) rfl (by kernel_rfl) (by kernel_rfl) (by kernel_rfl) (fun _ _ _ h => h) (Or.inl ⟨by rfl, ?hy6⟩) trivial ?_
              case hy6 => (intro w hSw; go_simp; try with_reducible rfl)
              simp only [Act.put, List.setIfInBounds_toArray, List.set_cons_zero, List.set_cons_succ]
              refine wpAnyH_take (i := 7) (oi := ⟨some 49, _, _, _, _, _⟩) (v := ?v7) rfl (by kernel_rfl) (by kernel_rfl) (by kernel_rfl) (fun _ _ _ h => h) (Or.inl ⟨by rfl, ?hy7⟩) trivial ?_
              case hy7 => (intro w hSw; go_simp; try with_reducible rfl)
              simp only [Act.put, List.setIfInBounds_toArray, List.set_cons_zero, List.set_cons_succ]
              refine wpAnyH_ready (rs := [9]) (by kernel_rfl) (by simp) ?_
              refine AllReadyH.cons (o := ⟨none, _, _, _, _, _⟩) rfl (fun K hK => ?_) AllReadyH.nil
              have q0 : w5.cell? ⟨w2.heap.size, 0, none⟩ = some (.int .i64 y) := cells_of hN5.out.h8 (j := 0) rfl
              have q1 : w5.cell? ⟨w2.heap.size, 1, none⟩ = some (.int .i64 m) := cells_of hN5.out.h8 (j := 1) rfl
              have q2 : w5.cell? ⟨w2.heap.size, 2, none⟩ = some (.int .i64 d) := cells_of hN5.out.h8 (j := 2) rfl
              have qf0 : w5.frozen? ⟨w2.heap.size, 0, none⟩ = false := froz_of hN5.out.h8 (j := 0)
              have qf1 : w5.frozen? ⟨w2.heap.size, 1, none⟩ = false := froz_of hN5.out.h8 (j := 1)
              have qf2 : w5.frozen? ⟨w2.heap.size, 2, none⟩ = false := froz_of hN5.out.h8 (j := 2)
              go_simp
              refine hK.out _ _ trivial (fun _ => ?_)
              clear hK K
              refine wpAnyH_done (by kernel_rfl) ?_ _
              obtain ⟨V2, hV2⟩ : ∃ V2, ((w5.setCell ⟨w2.heap.size, 0, none⟩ (.int .i64 (y + 1))).setCell ⟨w2.heap.size, 1, none⟩ (.int .i64 1)).setCell ⟨w2.heap.size, 2, none⟩ (.int .i64 1) = V2 := ⟨_, rfl⟩
              have hN9 := hidI2 (hN5.out.set hpH.out (Nat.le_of_lt hlt2.out) (Nat.ne_of_lt hlt2.out) ((y + 1)) 1 1 hV2)
              have v0 : V2.cell? ⟨w2.heap.size, 0, none⟩ = some (.int .i64 ((y + 1))) := cells_of hN9.out.h8 (j := 0) rfl
              clear hNr hN4 hND
              by_cases hg : 2200 < y + 1
              · have hnx2 := hyrn.out
                rw [if_pos hg] at hnx2
                have hnx3 := hidI2 hnx2
                clear hnx2
                go_wp2_with (rw [hV2])
                exact ⟨⟨day + rs, 30, y + 1, 1, 1, by first | rfl | rw [hwr] | go_num | simp, rfl, hnx3, hN9⟩, by first | (simp [intOf]; omega) | (simp [intOf, hwr]; omega)⟩
              · have hnx2 := hyrn.out
                rw [if_neg hg] at hnx2
                have hnx3 := hidI2 hnx2
                clear hnx2
                go_wp2_with (rw [hV2])
                exact ⟨⟨day + rs, 0, y + 1, 1, 1, by first | rfl | rw [hwr] | go_num | simp, rfl, hnx3, hN9⟩, by first | (simp [intOf]; omega) | (simp [intOf, hwr]; omega)⟩
            refine AllReadyH.cons (o := ⟨some 47, _, _, _, _, _⟩) rfl (fun K hK => ?_) AllReadyH.nil
            have z0 : w4.drew.cell? ⟨w2.heap.size, 0, none⟩ = some (.int .i64 y) := cells_of hND.out.h8 (j := 0) rfl
            have z1 : w4.drew.cell? ⟨w2.heap.size, 1, none⟩ = some (.int .i64 m) := cells_of hND.out.h8 (j := 1) rfl
            have z2 : w4.drew.cell? ⟨w2.heap.size, 2, none⟩ = some (.int .i64 d) := cells_of hND.out.h8 (j := 2) rfl
            go_simp
            refine hK.out _ _ trivial (fun _ => ?_)
            clear hK K
            clear z0 z1 z2
            try simp only [Act.put, List.setIfInBounds_toArray, List.set_cons_zero, List.set_cons_succ]
            refine wpAnyH_take (i := 6) (oi := ⟨some 48, _, _, _, _, _⟩) (v := ?v6) rfl (by kernel_rfl) (by kernel_rfl) (by kernel_rfl) (fun _ _ _ h => h) (Or.inl ⟨by rfl, ?hy6⟩) trivial ?_
            case hy6 => (intro w hSw; go_simp; try with_reducible rfl)
            simp only [Act.put, List.setIfInBounds_toArray, List.set_cons_zero, List.set_cons_succ]
            refine wpAnyH_take (i := 7) (oi := ⟨some 49, _, _, _, _, _⟩) (v := ?v7) rfl (by kernel_rfl) (by kernel_rfl) (by kernel_rfl) (fun _ _ _ h => h) (Or.inl ⟨by rfl, ?hy7⟩) trivial ?_
            case hy7 => (intro w hSw; go_simp; try with_reducible rfl)
            simp only [Act.put, List.setIfInBounds_toArray, List.set_cons_zero, List.set_cons_succ]
            refine wpAnyH_ready (rs := [2]) (by kernel_rfl) (by simp) ?_
            refine AllReadyH.cons (o := ⟨some 44, _, _, _, _, _⟩) rfl (fun K hK => ?_) AllReadyH.nil
            go_simp
            refine (hrest.out _).mono ?_
            rintro e w5 ⟨rfl, hb5⟩
            have hN5 := hidI2 (hND.out.next hb5)
            clear hb5
            go_wp2_with fail
            refine hK.out _ _ trivial (fun _ => ?_)
            clear hK K
            try simp only [Act.put, List.setIfInBounds_toArray, List.set_cons_zero, List.set_cons_succ]
            refine wpAnyH_take (i := 3) (oi := ⟨some 45, _, _, _, _, _⟩) (v := Value.int .i64 (day + rs)) rfl (by kernel_rfl) (by kernel_rfl) (by kernel_rfl) (fun _ _ _ h => h) (Or.inl ⟨by rfl, ?hy3⟩) trivial ?_
            case hy3 => (intro w hSw; go_simp; try with_reducible rfl)
            simp only [Act.put, List.setIfInBounds_toArray, List.set_cons_zero, List.set_cons_succ]
            refine wpAnyH_take (i := 8) (oi := ⟨some 7, _, _, _, _, _⟩) (v := Value.int .i64 (day + rs)) rfl (by kernel_rfl) (by kernel_rfl) (by kernel_rfl) (fun _ _ _ h => h) (Or.inl ⟨by rfl, ?hy8⟩) trivial ?_
            case hy8 => (intro w hSw; go_simp; try with_reducible rfl)
            simp only [Act.put, List.setIfInBounds_toArray, List.set_cons_zero, List.set_cons_succ]
            refine wpAnyH_ready (rs := [9]) (by kernel_rfl) (by simp) ?_
            refine AllReadyH.cons (o := ⟨none, _, _, _, _, _⟩) rfl (fun K hK => ?_) AllReadyH.nil
            have q0 : w5.cell? ⟨w2.heap.size, 0, none⟩ = some (.int .i64 y) := cells_of hN5.out.h8 (j := 0) rfl
            have q1 : w5.cell? ⟨w2.heap.size, 1, none⟩ = some (.int .i64 m) := cells_of hN5.out.h8 (j := 1) rfl
            have q2 : w5.cell? ⟨w2.heap.size, 2, none⟩ = some (.int .i64 d) := cells_of hN5.out.h8 (j := 2) rfl
            have qf0 : w5.frozen? ⟨w2.heap.size, 0, none⟩ = false := froz_of hN5.out.h8 (j := 0)
            have qf1 : w5.frozen? ⟨w2.heap.size, 1, none⟩ = false := froz_of hN5.out.h8 (j := 1)
            have qf2 : w5.frozen? ⟨w2.heap.size, 2, none⟩ = false := froz_of hN5.out.h8 (j := 2)
            go_simp
            refine hK.out _ _ trivial (fun _ => ?_)
            clear hK K
            refine wpAnyH_done (by kernel_rfl) ?_ _
            obtain ⟨V2, hV2⟩ : ∃ V2, ((w5.setCell ⟨w2.heap.size, 0, none⟩ (.int .i64 (y + 1))).setCell ⟨w2.heap.size, 1, none⟩ (.int .i64 1)).setCell ⟨w2.heap.size, 2, none⟩ (.int .i64 1) = V2 := ⟨_, rfl⟩
            have hN9 := hidI2 (hN5.out.set hpH.out (Nat.le_of_lt hlt2.out) (Nat.ne_of_lt hlt2.out) ((y + 1)) 1 1 hV2)
            have v0 : V2.cell? ⟨w2.heap.size, 0, none⟩ = some (.int .i64 ((y + 1))) := cells_of hN9.out.h8 (j := 0) rfl
            clear hNr hN4 hND
            by_cases hg : 2200 < y + 1
            · have hnx2 := hyrn.out
              rw [if_pos hg] at hnx2
              have hnx3 := hidI2 hnx2
              clear hnx2
              go_wp2_with (rw [hV2])
              exact ⟨⟨day + rs, 30, y + 1, 1, 1, by first | rfl | rw [hwr] | go_num | simp, rfl, hnx3, hN9⟩, by first | (simp [intOf]; omega) | (simp [intOf, hwr]; omega)⟩
            · have hnx2 := hyrn.out
              rw [if_neg hg] at hnx2
              have hnx3 := hidI2 hnx2
              clear hnx2
              go_wp2_with (rw [hV2])
              exact ⟨⟨day + rs, 0, y + 1, 1, 1, by first | rfl | rw [hwr] | go_num | simp, rfl, hnx3, hN9⟩, by first | (simp [intOf]; omega) | (simp [intOf, hwr]; omega)⟩
          refine AllReadyH.cons (o := ⟨some 47, _, _, _, _, _⟩) rfl (fun K hK => ?_) AllReadyH.nil
          have z0 : w4.drew.cell? ⟨w2.heap.size, 0, none⟩ = some (.int .i64 y) := cells_of hND.out.h8 (j := 0) rfl
          have z1 : w4.drew.cell? ⟨w2.heap.size, 1, none⟩ = some (.int .i64 m) := cells_of hND.out.h8 (j := 1) rfl
          have z2 : w4.drew.cell? ⟨w2.heap.size, 2, none⟩ = some (.int .i64 d) := cells_of hND.out.h8 (j := 2) rfl
          go_simp
          refine hK.out _ _ trivial (fun _ => ?_)
          clear hK K
          clear z0 z1 z2
          try simp only [Act.put, List.setIfInBounds_toArray, List.set_cons_zero, List.set_cons_succ]
          refine wpAnyH_take (i := 6) (oi := ⟨some 48, _, _, _, _, _⟩) (v := ?v6) rfl (by kernel_rfl) (by kernel_rfl) (by kernel_rfl) (fun _ _ _ h => h) (Or.inl ⟨by rfl, ?hy6⟩) trivial ?_
          case hy6 => (intro w hSw; go_simp; try with_reducible rfl)
          simp only [Act.put, List.setIfInBounds_toArray, List.set_cons_zero, List.set_cons_succ]
          refine wpAnyH_take (i := 7) (oi := ⟨some 49, _, _, _, _, _⟩) (v := ?v7) rfl (by kernel_rfl) (by kernel_rfl) (by kernel_rfl) (fun _ _ _ h => h) (Or.inl ⟨by rfl, ?hy7⟩) trivial ?_
          case hy7 => (intro w hSw; go_simp; try with_reducible rfl)
          simp only [Act.put, List.setIfInBounds_toArray, List.set_cons_zero, List.set_cons_succ]
          refine wpAnyH_ready (rs := [1]) (by kernel_rfl) (by simp) ?_
          refine AllReadyH.cons (o := ⟨some 43, _, _, _, _, _⟩) rfl (fun K hK => ?_) AllReadyH.nil
          have z0 : w4.drew.cell? ⟨w2.heap.size, 0, none⟩ = some (.int .i64 y) := cells_of hND.out.h8 (j := 0) rfl
          have z1 : w4.drew.cell? ⟨w2.heap.size, 1, none⟩ = some (.int .i64 m) := cells_of hND.out.h8 (j := 1) rfl
          have z2 : w4.drew.cell? ⟨w2.heap.size, 2, none⟩ = some (.int .i64 d) := cells_of hND.out.h8 (j := 2) rfl
          go_simp
          refine hK.out _ _ trivial (fun _ => ?_)
          clear hK K
          clear z0 z1 z2
          try simp only [Act.put, List.setIfInBounds_toArray, List.set_cons_zero, List.set_cons_succ]
          refine wpAnyH_ready (rs := [2]) (by kernel_rfl) (by simp) ?_
          refine AllReadyH.cons (o := ⟨some 44, _, _, _, _, _⟩) rfl (fun K hK => ?_) AllReadyH.nil
          go_simp
          refine (hrest.out _).mono ?_
          rintro e w5 ⟨rfl, hb5⟩
          have hN5 := hidI2 (hND.out.next hb5)
          clear hb5
          go_wp2_with fail
          refine hK.out _ _ trivial (fun _ => ?_)
          clear hK K
          try simp only [Act.put, List.setIfInBounds_toArray, List.set_cons_zero, List.set_cons_succ]
          refine wpAnyH_take (i := 3) (oi := ⟨some 45, _, _, _, _, _⟩) (v := Value.int .i64 (day + rs)) rfl (by kernel_rfl) (by kernel_rfl) (by kernel_rfl) (fun _ _ _ h => h) (Or.inl ⟨by rfl, ?hy3⟩) trivial ?_
          case hy3 => (intro w hSw; go_simp; try with_reducible rfl)
          simp only [Act.put, List.setIfInBounds_toArray, List.set_cons_zero, List.set_cons_succ]
          refine wpAnyH_take (i := 8) (oi := ⟨some 7, _, _, _, _, _⟩) (v := Value.int .i64 (day + rs)) rfl (by kernel_rfl) (by kernel_rfl) (by kernel_rfl) (fun _ _ _ h => h) (Or.inl ⟨by rfl, ?hy8⟩) trivial ?_
          case hy8 => (intro w hSw; go_simp; try with_reducible rfl)
          simp only [Act.put, List.setIfInBounds_toArray, List.set_cons_zero, List.set_cons_succ]
          refine wpAnyH_ready (rs := [9]) (by kernel_rfl) (by simp) ?_
          refine AllReadyH.cons (o := ⟨none, _, _, _, _, _⟩) rfl (fun K hK => ?_) AllReadyH.nil
          have q0 : w5.cell? ⟨w2.heap.size, 0, none⟩ = some (.int .i64 y) := cells_of hN5.out.h8 (j := 0) rfl
          have q1 : w5.cell? ⟨w2.heap.size, 1, none⟩ = some (.int .i64 m) := cells_of hN5.out.h8 (j := 1) rfl
          have q2 : w5.cell? ⟨w2.heap.size, 2, none⟩ = some (.int .i64 d) := cells_of hN5.out.h8 (j := 2) rfl
          have qf0 : w5.frozen? ⟨w2.heap.size, 0, none⟩ = false := froz_of hN5.out.h8 (j := 0)
          have qf1 : w5.frozen? ⟨w2.heap.size, 1, none⟩ = false := froz_of hN5.out.h8 (j := 1)
          have qf2 : w5.frozen? ⟨w2.heap.size, 2, none⟩ = false := froz_of hN5.out.h8 (j := 2)
          go_simp
          refine hK.out _ _ trivial (fun _ => ?_)
          clear hK K
          refine wpAnyH_done (by kernel_rfl) ?_ _
          obtain ⟨V2, hV2⟩ : ∃ V2, ((w5.setCell ⟨w2.heap.size, 0, none⟩ (.int .i64 (y + 1))).setCell ⟨w2.heap.size, 1, none⟩ (.int .i64 1)).setCell ⟨w2.heap.size, 2, none⟩ (.int .i64 1) = V2 := ⟨_, rfl⟩
          have hN9 := hidI2 (hN5.out.set hpH.out (Nat.le_of_lt hlt2.out) (Nat.ne_of_lt hlt2.out) ((y + 1)) 1 1 hV2)
          have v0 : V2.cell? ⟨w2.heap.size, 0, none⟩ = some (.int .i64 ((y + 1))) := cells_of hN9.out.h8 (j := 0) rfl
          clear hNr hN4 hND
          by_cases hg : 2200 < y + 1
          · have hnx2 := hyrn.out
            rw [if_pos hg] at hnx2
            have hnx3 := hidI2 hnx2
            clear hnx2
            go_wp2_with (rw [hV2])
            exact ⟨⟨day + rs, 30, y + 1, 1, 1, by first | rfl | rw [hwr] | go_num | simp, rfl, hnx3, hN9⟩, by first | (simp [intOf]; omega) | (simp [intOf, hwr]; omega)⟩
          · have hnx2 := hyrn.out
            rw [if_neg hg] at hnx2
            have hnx3 := hidI2 hnx2
            clear hnx2
            go_wp2_with (rw [hV2])
            exact ⟨⟨day + rs, 0, y + 1, 1, 1, by first | rfl | rw [hwr] | go_num | simp, rfl, hnx3, hN9⟩, by first | (simp [intOf]; omega) | (simp [intOf, hwr]; omega)⟩
      | true =>
        rw [hyr] at hIn0
        have hIn := hidI2 hIn0
        clear hIn0 hyr hyear
        by_cases hdq : day = 0
        · have hfrm : Hid (frm 0 day = 0) := by show _ = _; have h9 := hfd.out y m d (by rw [hnH.out, hdq]); rw [hnH.out] at h9; exact h9
          subst hdq
          go_wp2_with fail
          refine hIn.out.mono ?_
          rintro e w4 ⟨rfl, hb4⟩
          have hN4 := hidI2 (hNr.out.next hb4)
          clear hb4 hIn x0 k0 k1 k2 k3 k4 k5 k6
          have gc0 : w4.cell? ⟨w.heap.size, 0, none⟩ = some (slv (S 0)) := hN4.out.c0
          have gc1 : w4.cell? ⟨w.heap.size, 1, none⟩ = some (slv (S 1)) := hN4.out.c1
          have gc2 : w4.cell? ⟨w.heap.size, 2, none⟩ = some (slv (S 2)) := hN4.out.c2
          have gc3 : w4.cell? ⟨w.heap.size, 3, none⟩ = some (slv (S 3)) := hN4.out.c3
          have gc4 : w4.cell? ⟨w.heap.size, 4, none⟩ = some (slv (S 4)) := hN4.out.c4
          have gc5 : w4.cell? ⟨w.heap.size, 5, none⟩ = some (slv (S 5)) := hN4.out.c5
          have gc6 : w4.cell? ⟨w.heap.size, 6, none⟩ = some (slv (S 6)) := hN4.out.c6
          have g0 : w4.cell? ⟨w2.heap.size, 0, none⟩ = some (.int .i64 y) := cells_of hN4.out.h8 (j := 0) rfl
          have g1 : w4.cell? ⟨w2.heap.size, 1, none⟩ = some (.int .i64 m) := cells_of hN4.out.h8 (j := 1) rfl
          have g2 : w4.cell? ⟨w2.heap.size, 2, none⟩ = some (.int .i64 d) := cells_of hN4.out.h8 (j := 2) rfl
          have hDt := hidI2 (hDate.out w4 hN4.out.p)
          cases hdd : dtB c y m d 0 with
          | false =>
            have hDt1 := hDt.out
            rw [hdd] at hDt1
            have hDt := hidI2 hDt1
            have hnx := hidI2 (hday.out (hdn.out hdd))
            clear hDt1 hdd hhit hdt hdn hday
            go_wp2_with fail
            refine hDt.out.mono ?_
            rintro e w5 ⟨rfl, hb5⟩
            have hN5 := hidI2 (hN4.out.next hb5)
            clear hb5 gc0 gc1 gc2 gc3 gc4 gc5 gc6 g0 g1 g2 hDt
            have p0 : w5.cell? ⟨w2.heap.size, 0, none⟩ = some (.int .i64 y) := cells_of hN5.out.h8 (j := 0) rfl
            have p1 : w5.cell? ⟨w2.heap.size, 1, none⟩ = some (.int .i64 m) := cells_of hN5.out.h8 (j := 1) rfl
            have p2 : w5.cell? ⟨w2.heap.size, 2, none⟩ = some (.int .i64 d) := cells_of hN5.out.h8 (j := 2) rfl
            go_wp2_with fail
            refine (htom.out _).mono ?_
            rintro e w7 ⟨rfl, hb7⟩
            have hN7 := hidI2 (hN5.out.next hb7)
            clear hb7 p0 p1 p2
            have q0 : w7.cell? ⟨w2.heap.size, 0, none⟩ = some (.int .i64 y) := cells_of hN7.out.h8 (j := 0) rfl
            have q1 : w7.cell? ⟨w2.heap.size, 1, none⟩ = some (.int .i64 m) := cells_of hN7.out.h8 (j := 1) rfl
            have q2 : w7.cell? ⟨w2.heap.size, 2, none⟩ = some (.int .i64 d) := cells_of hN7.out.h8 (j := 2) rfl
            have qf0 : w7.frozen? ⟨w2.heap.size, 0, none⟩ = false := froz_of hN7.out.h8 (j := 0)
            have qf1 : w7.frozen? ⟨w2.heap.size, 1, none⟩ = false := froz_of hN7.out.h8 (j := 1)
            have qf2 : w7.frozen? ⟨w2.heap.size, 2, none⟩ = false := froz_of hN7.out.h8 (j := 2)
            obtain ⟨V2, hV2⟩ : ∃ V2, ((w7.setCell ⟨w2.heap.size, 0, none⟩ (.int .i64 y')).setCell ⟨w2.heap.size, 1, none⟩ (.int .i64 m')).setCell ⟨w2.heap.size, 2, none⟩ (.int .i64 d') = V2 := ⟨_, rfl⟩
            have hN9 := hidI2 (hN7.out.set hpH.out (Nat.le_of_lt hlt2.out) (Nat.ne_of_lt hlt2.out) (y') m' d' hV2)
            have v0 : V2.cell? ⟨w2.heap.size, 0, none⟩ = some (.int .i64 (y')) := cells_of hN9.out.h8 (j := 0) rfl
            clear hNr hN4
            by_cases hg : 2200 < y'
            · have hnx2 := hnx.out
              rw [if_pos hg] at hnx2
              have hnx3 := hidI2 hnx2
              clear hnx2
              go_wp2_with (rw [hV2])
              exact ⟨⟨0 + 1, 30, y', m', d', by go_num, rfl, hnx3, hN9⟩, by simp [intOf]⟩
            · have hnx2 := hnx.out
              rw [if_neg hg] at hnx2
              have hnx3 := hidI2 hnx2
              clear hnx2
              go_wp2_with (rw [hV2])
              exact ⟨⟨0 + 1, 0, y', m', d', by go_num, rfl, hnx3, hN9⟩, by simp [intOf]⟩
          | true =>
            have hDt1 := hDt.out
            rw [hdd] at hDt1
            have hDt := hidI2 hDt1
            have hddH := hidI2 hdd
            clear hDt1 hdd
            go_wp2_with fail
            refine hDt.out.mono ?_
            rintro e w5 ⟨rfl, hb5⟩
            have hN5 := hidI2 (hN4.out.next hb5)
            clear hb5 gc0 gc1 gc2 gc3 gc4 gc5 gc6 g0 g1 g2 hDt
            have hc0 : w5.cell? ⟨w.heap.size, 0, none⟩ = some (slv (S 0)) := hN5.out.c0
            have hc1 : w5.cell? ⟨w.heap.size, 1, none⟩ = some (slv (S 1)) := hN5.out.c1
            have hc2 : w5.cell? ⟨w.heap.size, 2, none⟩ = some (slv (S 2)) := hN5.out.c2
            have hc3 : w5.cell? ⟨w.heap.size, 3, none⟩ = some (slv (S 3)) := hN5.out.c3
            have hc4 : w5.cell? ⟨w.heap.size, 4, none⟩ = some (slv (S 4)) := hN5.out.c4
            have hc5 : w5.cell? ⟨w.heap.size, 5, none⟩ = some (slv (S 5)) := hN5.out.c5
            have hc6 : w5.cell? ⟨w.heap.size, 6, none⟩ = some (slv (S 6)) := hN5.out.c6
            have hTm := hidI2 (hTime.out 0 (by omega) (by omega) w5 hN5.out.p)
            go_wp2_with fail
            refine hTm.out.mono ?_
            rintro e w6 ⟨⟨r', rfl, htr⟩, hb6⟩
            have hN6 := hidI2 (hN5.out.next hb6)
            clear hb6 hc0 hc1 hc2 hc3 hc4 hc5 hc6 hTm
            rcases htr with ⟨hr1, hr2⟩ | ⟨hr1, hr2, hr3, hr4⟩
            · subst hr1
              have hnx := hidI2 (hday.out (hdt.out (by rw [hfrm.out]; exact hr2)))
              clear hr2 hhit hdt hdn hday
              have p0 : w6.cell? ⟨w2.heap.size, 0, none⟩ = some (.int .i64 y) := cells_of hN6.out.h8 (j := 0) rfl
              have p1 : w6.cell? ⟨w2.heap.size, 1, none⟩ = some (.int .i64 m) := cells_of hN6.out.h8 (j := 1) rfl
              have p2 : w6.cell? ⟨w2.heap.size, 2, none⟩ = some (.int .i64 d) := cells_of hN6.out.h8 (j := 2) rfl
              go_wp2_with fail
              refine (htom.out _).mono ?_
              rintro e w7 ⟨rfl, hb7⟩
              have hN7 := hidI2 (hN6.out.next hb7)
              clear hb7 p0 p1 p2
              have q0 : w7.cell? ⟨w2.heap.size, 0, none⟩ = some (.int .i64 y) := cells_of hN7.out.h8 (j := 0) rfl
              have q1 : w7.cell? ⟨w2.heap.size, 1, none⟩ = some (.int .i64 m) := cells_of hN7.out.h8 (j := 1) rfl
              have q2 : w7.cell? ⟨w2.heap.size, 2, none⟩ = some (.int .i64 d) := cells_of hN7.out.h8 (j := 2) rfl
              have qf0 : w7.frozen? ⟨w2.heap.size, 0, none⟩ = false := froz_of hN7.out.h8 (j := 0)
              have qf1 : w7.frozen? ⟨w2.heap.size, 1, none⟩ = false := froz_of hN7.out.h8 (j := 1)
              have qf2 : w7.frozen? ⟨w2.heap.size, 2, none⟩ = false := froz_of hN7.out.h8 (j := 2)
              obtain ⟨V2, hV2⟩ : ∃ V2, ((w7.setCell ⟨w2.heap.size, 0, none⟩ (.int .i64 y')).setCell ⟨w2.heap.size, 1, none⟩ (.int .i64 m')).setCell ⟨w2.heap.size, 2, none⟩ (.int .i64 d') = V2 := ⟨_, rfl⟩
              have hN9 := hidI2 (hN7.out.set hpH.out (Nat.le_of_lt hlt2.out) (Nat.ne_of_lt hlt2.out) (y') m' d' hV2)
              have v0 : V2.cell? ⟨w2.heap.size, 0, none⟩ = some (.int .i64 (y')) := cells_of hN9.out.h8 (j := 0) rfl
              clear hNr hN4
              by_cases hg : 2200 < y'
              · have hnx2 := hnx.out
                rw [if_pos hg] at hnx2
                have hnx3 := hidI2 hnx2
                clear hnx2
                go_wp2_with (rw [hV2])
                exact ⟨⟨0 + 1, 30, y', m', d', by go_num, rfl, hnx3, hN9⟩, by simp [intOf]⟩
              · have hnx2 := hnx.out
                rw [if_neg hg] at hnx2
                have hnx3 := hidI2 hnx2
                clear hnx2
                go_wp2_with (rw [hV2])
                exact ⟨⟨0 + 1, 0, y', m', d', by go_num, rfl, hnx3, hN9⟩, by simp [intOf]⟩
            · have hfin0 := some_out.out _ (hhit.out r' hddH.out (by rw [hfrm.out]; exact hr1) hr2 hr3 (by rw [hfrm.out]; exact hr4)) _ hN6.out.be
              rw [show (0 : Int) * 86400 + r' = r' by omega] at hfin0
              have hfin := hidI2 hfin0
              clear hfin0
              have hr0 : 0 ≤ r' := by omega
              clear hr3 hr4 hhit hdt hdn hday
              go_wp2_with fail
              go_ret2
              exact hfin.out
        · have hfrm : Hid (frm 0 day = 0) := by show _ = _; have h9 := hfn.out y m d (by rw [hnH.out]; exact hdq); rw [hnH.out] at h9; exact h9
          go_wp2_with fail
          refine hIn.out.mono ?_
          rintro e w4 ⟨rfl, hb4⟩
          have hN4 := hidI2 (hNr.out.next hb4)
          clear hb4 hIn x0 k0 k1 k2 k3 k4 k5 k6
          have gc0 : w4.cell? ⟨w.heap.size, 0, none⟩ = some (slv (S 0)) := hN4.out.c0
          have gc1 : w4.cell? ⟨w.heap.size, 1, none⟩ = some (slv (S 1)) := hN4.out.c1
          have gc2 : w4.cell? ⟨w.heap.size, 2, none⟩ = some (slv (S 2)) := hN4.out.c2
          have gc3 : w4.cell? ⟨w.heap.size, 3, none⟩ = some (slv (S 3)) := hN4.out.c3
          have gc4 : w4.cell? ⟨w.heap.size, 4, none⟩ = some (slv (S 4)) := hN4.out.c4
          have gc5 : w4.cell? ⟨w.heap.size, 5, none⟩ = some (slv (S 5)) := hN4.out.c5
          have gc6 : w4.cell? ⟨w.heap.size, 6, none⟩ = some (slv (S 6)) := hN4.out.c6
          have g0 : w4.cell? ⟨w2.heap.size, 0, none⟩ = some (.int .i64 y) := cells_of hN4.out.h8 (j := 0) rfl
          have g1 : w4.cell? ⟨w2.heap.size, 1, none⟩ = some (.int .i64 m) := cells_of hN4.out.h8 (j := 1) rfl
          have g2 : w4.cell? ⟨w2.heap.size, 2, none⟩ = some (.int .i64 d) := cells_of hN4.out.h8 (j := 2) rfl
          have hDt := hidI2 (hDate.out w4 hN4.out.p)
          cases hdd : dtB c y m d day with
          | false =>
            have hDt1 := hDt.out
            rw [hdd] at hDt1
            have hDt := hidI2 hDt1
            have hnx := hidI2 (hday.out (hdn.out hdd))
            clear hDt1 hdd hhit hdt hdn hday
            go_wp2_with fail
            refine hDt.out.mono ?_
            rintro e w5 ⟨rfl, hb5⟩
            have hN5 := hidI2 (hN4.out.next hb5)
            clear hb5 gc0 gc1 gc2 gc3 gc4 gc5 gc6 g0 g1 g2 hDt
            have p0 : w5.cell? ⟨w2.heap.size, 0, none⟩ = some (.int .i64 y) := cells_of hN5.out.h8 (j := 0) rfl
            have p1 : w5.cell? ⟨w2.heap.size, 1, none⟩ = some (.int .i64 m) := cells_of hN5.out.h8 (j := 1) rfl
            have p2 : w5.cell? ⟨w2.heap.size, 2, none⟩ = some (.int .i64 d) := cells_of hN5.out.h8 (j := 2) rfl
            go_wp2_with fail
            refine (htom.out _).mono ?_
            rintro e w7 ⟨rfl, hb7⟩
            have hN7 := hidI2 (hN5.out.next hb7)
            clear hb7 p0 p1 p2
            have q0 : w7.cell? ⟨w2.heap.size, 0, none⟩ = some (.int .i64 y) := cells_of hN7.out.h8 (j := 0) rfl
            have q1 : w7.cell? ⟨w2.heap.size, 1, none⟩ = some (.int .i64 m) := cells_of hN7.out.h8 (j := 1) rfl
            have q2 : w7.cell? ⟨w2.heap.size, 2, none⟩ = some (.int .i64 d) := cells_of hN7.out.h8 (j := 2) rfl
            have qf0 : w7.frozen? ⟨w2.heap.size, 0, none⟩ = false := froz_of hN7.out.h8 (j := 0)
            have qf1 : w7.frozen? ⟨w2.heap.size, 1, none⟩ = false := froz_of hN7.out.h8 (j := 1)
            have qf2 : w7.frozen? ⟨w2.heap.size, 2, none⟩ = false := froz_of hN7.out.h8 (j := 2)
            obtain ⟨V2, hV2⟩ : ∃ V2, ((w7.setCell ⟨w2.heap.size, 0, none⟩ (.int .i64 y')).setCell ⟨w2.heap.size, 1, none⟩ (.int .i64 m')).setCell ⟨w2.heap.size, 2, none⟩ (.int .i64 d') = V2 := ⟨_, rfl⟩
            have hN9 := hidI2 (hN7.out.set hpH.out (Nat.le_of_lt hlt2.out) (Nat.ne_of_lt hlt2.out) (y') m' d' hV2)
            have v0 : V2.cell? ⟨w2.heap.size, 0, none⟩ = some (.int .i64 (y')) := cells_of hN9.out.h8 (j := 0) rfl
            clear hNr hN4
            by_cases hg : 2200 < y'
            · have hnx2 := hnx.out
              rw [if_pos hg] at hnx2
              have hnx3 := hidI2 hnx2
              clear hnx2
              go_wp2_with (rw [hV2])
              exact ⟨⟨day + 1, 30, y', m', d', by go_num, rfl, hnx3, hN9⟩, by simp [intOf]; omega⟩
            · have hnx2 := hnx.out
              rw [if_neg hg] at hnx2
              have hnx3 := hidI2 hnx2
              clear hnx2
              go_wp2_with (rw [hV2])
              exact ⟨⟨day + 1, 0, y', m', d', by go_num, rfl, hnx3, hN9⟩, by simp [intOf]; omega⟩
          | true =>
            have hDt1 := hDt.out
            rw [hdd] at hDt1
            have hDt := hidI2 hDt1
            have hddH := hidI2 hdd
            clear hDt1 hdd
            go_wp2_with fail
            refine hDt.out.mono ?_
            rintro e w5 ⟨rfl, hb5⟩
            have hN5 := hidI2 (hN4.out.next hb5)
            clear hb5 gc0 gc1 gc2 gc3 gc4 gc5 gc6 g0 g1 g2 hDt
            have hc0 : w5.cell? ⟨w.heap.size, 0, none⟩ = some (slv (S 0)) := hN5.out.c0
            have hc1 : w5.cell? ⟨w.heap.size, 1, none⟩ = some (slv (S 1)) := hN5.out.c1
            have hc2 : w5.cell? ⟨w.heap.size, 2, none⟩ = some (slv (S 2)) := hN5.out.c2
            have hc3 : w5.cell? ⟨w.heap.size, 3, none⟩ = some (slv (S 3)) := hN5.out.c3
            have hc4 : w5.cell? ⟨w.heap.size, 4, none⟩ = some (slv (S 4)) := hN5.out.c4
            have hc5 : w5.cell? ⟨w.heap.size, 5, none⟩ = some (slv (S 5)) := hN5.out.c5
            have hc6 : w5.cell? ⟨w.heap.size, 6, none⟩ = some (slv (S 6)) := hN5.out.c6
            have hTm := hidI2 (hTime.out 0 (by omega) (by omega) w5 hN5.out.p)
            go_wp2_with fail
            refine hTm.out.mono ?_
            rintro e w6 ⟨⟨r', rfl, htr⟩, hb6⟩
            have hN6 := hidI2 (hN5.out.next hb6)
            clear hb6 hc0 hc1 hc2 hc3 hc4 hc5 hc6 hTm
            rcases htr with ⟨hr1, hr2⟩ | ⟨hr1, hr2, hr3, hr4⟩
            · subst hr1
              have hnx := hidI2 (hday.out (hdt.out (by rw [hfrm.out]; exact hr2)))
              clear hr2 hhit hdt hdn hday
              have p0 : w6.cell? ⟨w2.heap.size, 0, none⟩ = some (.int .i64 y) := cells_of hN6.out.h8 (j := 0) rfl
              have p1 : w6.cell? ⟨w2.heap.size, 1, none⟩ = some (.int .i64 m) := cells_of hN6.out.h8 (j := 1) rfl
              have p2 : w6.cell? ⟨w2.heap.size, 2, none⟩ = some (.int .i64 d) := cells_of hN6.out.h8 (j := 2) rfl
              go_wp2_with fail
              refine (htom.out _).mono ?_
              rintro e w7 ⟨rfl, hb7⟩
              have hN7 := hidI2 (hN6.out.next hb7)
              clear hb7 p0 p1 p2
              have q0 : w7.cell? ⟨w2.heap.size, 0, none⟩ = some (.int .i64 y) := cells_of hN7.out.h8 (j := 0) rfl
              have q1 : w7.cell? ⟨w2.heap.size, 1, none⟩ = some (.int .i64 m) := cells_of hN7.out.h8 (j := 1) rfl
              have q2 : w7.cell? ⟨w2.heap.size, 2, none⟩ = some (.int .i64 d) := cells_of hN7.out.h8 (j := 2) rfl
              have qf0 : w7.frozen? ⟨w2.heap.size, 0, none⟩ = false := froz_of hN7.out.h8 (j := 0)
              have qf1 : w7.frozen? ⟨w2.heap.size, 1, none⟩ = false := froz_of hN7.out.h8 (j := 1)
              have qf2 : w7.frozen? ⟨w2.heap.size, 2, none⟩ = false := froz_of hN7.out.h8 (j := 2)
              obtain ⟨V2, hV2⟩ : ∃ V2, ((w7.setCell ⟨w2.heap.size, 0, none⟩ (.int .i64 y')).setCell ⟨w2.heap.size, 1, none⟩ (.int .i64 m')).setCell ⟨w2.heap.size, 2, none⟩ (.int .i64 d') = V2 := ⟨_, rfl⟩
              have hN9 := hidI2 (hN7.out.set hpH.out (Nat.le_of_lt hlt2.out) (Nat.ne_of_lt hlt2.out) (y') m' d' hV2)
              have v0 : V2.cell? ⟨w2.heap.size, 0, none⟩ = some (.int .i64 (y')) := cells_of hN9.out.h8 (j := 0) rfl
              clear hNr hN4
              by_cases hg : 2200 < y'
              · have hnx2 := hnx.out
                rw [if_pos hg] at hnx2
                have hnx3 := hidI2 hnx2
                clear hnx2
                go_wp2_with (rw [hV2])
                exact ⟨⟨day + 1, 30, y', m', d', by go_num, rfl, hnx3, hN9⟩, by simp [intOf]; omega⟩
              · have hnx2 := hnx.out
                rw [if_neg hg] at hnx2
                have hnx3 := hidI2 hnx2
                clear hnx2
                go_wp2_with (rw [hV2])
                exact ⟨⟨day + 1, 0, y', m', d', by go_num, rfl, hnx3, hN9⟩, by simp [intOf]; omega⟩
            · have hfin := hidI2 (some_out.out _ (hhit.out r' hddH.out (by rw [hfrm.out]; exact hr1) hr2 hr3 (by rw [hfrm.out]; exact hr4)) _ hN6.out.be)
              have hr0 : 0 ≤ r' := by omega
              clear hr3 hr4 hhit hdt hdn hday
              go_wp2_with fail
              go_ret2
              exact hfin.out
    · have hzr := hidI2 hNr.out.be
      clear hns'
      rcases he with rfl | rfl
      · go_wp2_with fail
        go_ret2
        exact none_out.out hno _ hzr.out
      · go_wp2_with fail
        go_ret2
        exact none_out.out hno _ hzr.out
end Go.Proofs.YtehlnhljpdjppaaGreatDoor
/- The contract of the reference's Next, for every calendar and time. -/
namespace Go.Proofs.YtehlnhljpdjppaaGreatDoor
open Go.RowKit
set_option maxRecDepth 100000 in
set_option maxHeartbeats 400000 in
theorem rnext_no (S : Nat → Sl) (c : Cal.C7) (t : Int) (w : World) (hp : CalPin (fun _ => False) w S c) (hIs : isB c = false) :
    Calls Tryz.prog 7 #[aggC S, .int .i64 t] w fun e w' => e = .returned (.tuple #[.int .i64 0, .bool false]) ∧ Below w.heap.size w w' := by
  obtain ⟨W, hW⟩ : ∃ W, w.alloc (.cells #[slv (S 0), slv (S 1), slv (S 2), slv (S 3), slv (S 4), slv (S 5), slv (S 6)] 24) = W := ⟨_, rfl⟩
  have hB : Hid (Below w.heap.size w W) := by show Below _ _ _; rw [← hW]; exact (Below.refl _ _).alloc (Nat.le_refl _) _
  have hk : Hid (∀ j u, #[slv (S 0), slv (S 1), slv (S 2), slv (S 3), slv (S 4), slv (S 5), slv (S 6)][j]? = some u → W.cell? ⟨w.heap.size, j, none⟩ = some u) := fun j u hj => by rw [← hW]; exact cell_at rfl hj
  have c0 := hk.out 0 _ rfl
  have c1 := hk.out 1 _ rfl
  have c2 := hk.out 2 _ rfl
  have c3 := hk.out 3 _ rfl
  have c4 := hk.out 4 _ rfl
  have c5 := hk.out 5 _ rfl
  have c6 := hk.out 6 _ rfl
  have hI0 := rIsC_any S c W (hp.below hB.out)
  rw [hIs] at hI0
  have hI := hidI2 hI0
  clear hp hI0 hIs
  go_enter Tryz.func7, Tryz.ntmps7
  go_wp2_with (rw [hW])
  refine hI.out.mono ?_
  rintro e w1 ⟨rfl, hb1⟩
  have hz1 := hidI2 (hB.out.trans (hb1.mono hB.out.size))
  clear hI hb1 c0 c1 c2 c3 c4 c5 c6 hW hB hk
  go_wp2_with fail
  go_ret2
  exact ⟨rfl, hz1.out⟩
theorem rnext_any (S : Nat → Sl) (c : Cal.C7) (t : Int) (w : World) (hp : CalPin (fun _ => False) w S c) (t0 : -9223372036854775808 ≤ t) (t1 : t ≤ 9223372036854775807) :
    Calls Tryz.prog 7 #[aggC S, .int .i64 t] w fun e w' => e = .returned (.tuple #[.int .i64 (if isB c = true then (Cal.nx c t).getD 0 else 0), .bool (isB c && (Cal.nx c t).isSome)]) ∧ Below w.heap.size w w' := by
  cases hIs : isB c with
  | false => exact rnext_no S c t w hp hIs
  | true =>
    by_cases hm : t < -1
    · exact (rnext_lo S c t w hp hIs hm t0).mono (fun e w' h => h.out)
    · exact (rnext_hi S c t w hp hIs hm t0 t1).mono (fun e w' h => h.out)
end Go.Proofs.YtehlnhljpdjppaaGreatDoor
/- The law CalendarNext holds. -/
namespace Go.Proofs.YtehlnhljpdjppaaGreatDoor
open Go.RowKit
theorem match_bool (S : Nat → Sl) (c : Cal.C7) (y m d h mi s : Int) (w : World) (hp : CalPin (fun _ => False) w S c) (hg : GlP w) :
    Calls Tryz.prog 8 #[aggC S, momV y m d h mi s] w fun e w' => e = .returned (.bool (isB c && ((Civ.vldB y m d && Civ.timB h mi s) && mtM c y m d h mi s))) ∧ Below w.heap.size w w' := by
  cases hv : Civ.vldB y m d with
  | false =>
    have := matches_off S y m d h mi s w hg (.inl hv)
    simpa using this
  | true =>
    cases ht : Civ.timB h mi s with
    | false =>
      have := matches_off S y m d h mi s w hg (.inr ht)
      simpa using this
    | true =>
      have := matches_on S c y m d h mi s w hp hg hv ht
      simpa using this
set_option maxRecDepth 100000 in
set_option maxHeartbeats 2000000 in
theorem next_walk (S : Nat → Sl) (c : Cal.C7) (y m d h mi s t : Int) (w : World) (hg : GlP w) (hcb : CalB w S c) (_hm : True) (t0 : -9223372036854775808 ≤ t) (t1 : t ≤ 9223372036854775807) :
    Calls Tryz.prog 3 #[aggC S, momV y m d h mi s, .int .i64 t] w fun e w' => e = .returned (.bool true) ∧ Below w.heap.size w w' := by
  obtain ⟨W, hW⟩ : ∃ W, (w.alloc (.cells #[slv (S 0), slv (S 1), slv (S 2), slv (S 3), slv (S 4), slv (S 5), slv (S 6)] 24)).alloc (.cells #[.int .i64 y, .int .i64 m, .int .i64 d, .int .i64 h, .int .i64 mi, .int .i64 s] 28) = W := ⟨_, rfl⟩
  have hB : Hid (Below w.heap.size w W) := by show Below _ _ _; rw [← hW]; exact ((Below.refl _ _).alloc (Nat.le_refl _) _).alloc (by simp) _
  have hk : Hid (∀ j u, #[slv (S 0), slv (S 1), slv (S 2), slv (S 3), slv (S 4), slv (S 5), slv (S 6)][j]? = some u → W.cell? ⟨w.heap.size, j, none⟩ = some u) := fun j u hj => by
    rw [← hW]; exact (((Below.refl _ _).alloc (Nat.le_refl _) _).cell (p := ⟨w.heap.size, j, none⟩) (by simp)).trans (cell_at rfl hj)
  have hd : Hid (∀ j u, #[Value.int .i64 y, .int .i64 m, .int .i64 d, .int .i64 h, .int .i64 mi, .int .i64 s][j]? = some u → W.cell? ⟨w.heap.size + 1, j, none⟩ = some u) := fun j u hj => by rw [← hW]; exact cell_at (by simp) hj
  have hgW := hidI2 (hg.below hB.out)
  have hkn := hidI2 (known_any W hgW.out)
  have hcbH := hidI2 hcb
  have hlt : Hid (w.heap.size < W.heap.size) := cell_lt (hk.out 0 _ rfl)
  clear hcb hg
  go_enter Tryz.func3, Tryz.ntmps3
  go_wp2_with (rw [hW])
  refine hkn.out.mono ?_
  rintro e w1 ⟨rfl, hb1⟩
  have hz1 := hidI2 (hB.out.trans (hb1.mono hB.out.size))
  have hb1H := hidI2 hb1
  have hx : Hid (∀ j u, #[slv (S 0), slv (S 1), slv (S 2), slv (S 3), slv (S 4), slv (S 5), slv (S 6)][j]? = some u → w1.cell? ⟨w.heap.size, j, none⟩ = some u) := fun j u hj => (hb1H.out.cell (p := ⟨w.heap.size, j, none⟩) hlt.out).trans (hk.out j u hj)
  have c0 := hx.out 0 _ rfl
  have c1 := hx.out 1 _ rfl
  have c2 := hx.out 2 _ rfl
  have c3 := hx.out 3 _ rfl
  have c4 := hx.out 4 _ rfl
  have c5 := hx.out 5 _ rfl
  have c6 := hx.out 6 _ rfl
  have hfw := few_any S c w hcbH.out w1
  clear hkn hW hb1
  by_cases hfew : fewN c ≤ 60
  · rw [decide_eq_true hfew] at hfw
    have hfwH := hidI2 hfw
    have hpw := hcbH.out.pin hfew
    have hMC : Hid (MC6 w.heap.size S c y m d h mi s W) := ⟨hk.out 0 _ rfl, hk.out 1 _ rfl, hk.out 2 _ rfl, hk.out 3 _ rfl, hk.out 4 _ rfl, hk.out 5 _ rfl, hk.out 6 _ rfl, hd.out 0 _ rfl, hd.out 1 _ rfl, hd.out 2 _ rfl, hd.out 3 _ rfl, hd.out 4 _ rfl, hd.out 5 _ rfl, hpw.below hB.out⟩
    clear hfw hpw hk hd
    go_wp2_with fail
    refine hfwH.out.mono ?_
    rintro e w2 ⟨rfl, hb2⟩
    have hz2 := hidI2 (hz1.out.trans (hb2.mono hz1.out.size))
    have hW2 := hidI2 (hb1H.out.trans (hb2.mono hb1H.out.size))
    have hM2 := hidI2 (hMC.out.next hW2.out)
    clear hb2 hfwH c0 c1 c2 c3 c4 c5 c6 hx
    obtain ⟨c0, c1, c2, c3, c4, c5, c6, _, _, _, _, _, _, hp2⟩ := id hM2.out
    have hN0 := next_any S c t w2 hp2 (hgW.out.below hW2.out).gl t1
    have hR0 := fun V (hv : CalPin (fun _ => False) V S c) => rnext_any S c t V hv t0 t1
    obtain ⟨n, hn⟩ : ∃ n, (if isB c = true then (Cal.nx c t).getD 0 else 0) = n := ⟨_, rfl⟩
    obtain ⟨b, hbb⟩ : ∃ b, (isB c && (Cal.nx c t).isSome) = b := ⟨_, rfl⟩
    rw [hn, hbb] at hN0 hR0
    have hN := hidI2 hN0
    have hR := hidI2 hR0
    clear hN0 hR0 hp2 hn hbb
    go_wp2_with fail
    refine hN.out.mono ?_
    rintro e w3 ⟨rfl, hb3⟩
    have hz3 := hidI2 (hz2.out.trans (hb3.mono hz2.out.size))
    have hW3 := hidI2 (hW2.out.trans (hb3.mono hW2.out.size))
    have hM3 := hidI2 (hMC.out.next hW3.out)
    clear hb3 hN c0 c1 c2 c3 c4 c5 c6
    obtain ⟨c0, c1, c2, c3, c4, c5, c6, _, _, _, _, _, _, hp3⟩ := id hM3.out
    have hR3 := hidI2 (hR.out w3 hp3)
    clear hp3 hR
    go_wp2_with fail
    refine hR3.out.mono ?_
    rintro e w4 ⟨rfl, hb4⟩
    have hz4 := hidI2 (hz3.out.trans (hb4.mono hz3.out.size))
    have hW4 := hidI2 (hW3.out.trans (hb4.mono hW3.out.size))
    have hM4 := hidI2 (hMC.out.next hW4.out)
    have hg4 := hidI2 (hgW.out.below hW4.out)
    clear hb4 hR3 c0 c1 c2 c3 c4 c5 c6
    go_upto_region 7 with fail
    have hA0 := fun V (hv : CalPin (fun _ => False) V S c) (hg : GlP V) => match_bool S c y m d h mi s V hv hg
    have hB0 := fun V (hv : CalPin (fun _ => False) V S c) => rmatch_any S c y m d h mi s V hv
    obtain ⟨q, hq⟩ : ∃ q, (isB c && ((Civ.vldB y m d && Civ.timB h mi s) && mtM c y m d h mi s)) = q := ⟨_, rfl⟩
    rw [hq] at hA0 hB0
    have hAc := hidI2 hA0
    have hBc := hidI2 hB0
    clear hA0 hB0 hq
    have hC0 : Hid (QD w4 { w4 with drawn := w4.drawn + 1 }) := QD.mk (Below.refl _ w4).drew
    have hQ : Hid (∀ y', QD w4 y' → MC6 w.heap.size S c y m d h mi s y') := fun y' h => hM4.out.next h.b
    have hconst : ∀ p : Prop, (∀ w', QD w4 w' → p) = p := fun p => propext ⟨fun h => h _ hC0.out, fun h _ _ => h⟩
    refine region_WQ (C := QD w4) (by kernel_rfl) (by kernel_rfl) hC0.out ?_
    refine WQ_step (fun K hK => ?_)
    simp only [SQ_eq]
    go_simp
    refine Exists.intro (Value.agg #[slv (S 0), slv (S 1), slv (S 2), slv (S 3), slv (S 4), slv (S 5), slv (S 6)]) (And.intro (fun w' hw => (by obtain ⟨c0, c1, c2, c3, c4, c5, c6, e0, e1, e2, e3, e4, e5, _⟩ := hQ.out w' hw; simp [c0, c1, c2, c3, c4, c5, c6])) ?_)
    go_simp
    refine hK _ ?_
    clear hK K
    refine WQ_step (fun K hK => ?_)
    simp only [SQ_eq]
    go_simp
    refine Exists.intro (Value.agg #[Value.int .i64 y, Value.int .i64 m, Value.int .i64 d, Value.int .i64 h, Value.int .i64 mi, Value.int .i64 s]) (And.intro (fun w' hw => (by obtain ⟨c0, c1, c2, c3, c4, c5, c6, e0, e1, e2, e3, e4, e5, _⟩ := hQ.out w' hw; simp [e0, e1, e2, e3, e4, e5])) ?_)
    go_simp
    refine hK _ ?_
    clear hK K
    refine WQ_step (fun K hK => ?_)
    simp only [SQ_eq]
    go_simp
    refine Exists.intro (Value.bool q) (And.intro (fun w' hw => ((hAc.out w' (hQ.out w' hw).p (hg4.out.below hw.b)).mono (fun e z h => ⟨h.1, ⟨hw.b.trans (h.2.mono hw.b.size)⟩⟩))) ?_)
    go_simp
    refine hK _ ?_
    clear hK K
    refine WQ_step (fun K hK => ?_)
    simp only [SQ_eq]
    go_simp
    refine Exists.intro (Value.agg #[slv (S 0), slv (S 1), slv (S 2), slv (S 3), slv (S 4), slv (S 5), slv (S 6)]) (And.intro (fun w' hw => (by obtain ⟨c0, c1, c2, c3, c4, c5, c6, e0, e1, e2, e3, e4, e5, _⟩ := hQ.out w' hw; simp [c0, c1, c2, c3, c4, c5, c6])) ?_)
    go_simp
    refine hK _ ?_
    clear hK K
    refine WQ_step (fun K hK => ?_)
    simp only [SQ_eq]
    go_simp
    refine Exists.intro (Value.agg #[Value.int .i64 y, Value.int .i64 m, Value.int .i64 d, Value.int .i64 h, Value.int .i64 mi, Value.int .i64 s]) (And.intro (fun w' hw => (by obtain ⟨c0, c1, c2, c3, c4, c5, c6, e0, e1, e2, e3, e4, e5, _⟩ := hQ.out w' hw; simp [e0, e1, e2, e3, e4, e5])) ?_)
    go_simp
    refine hK _ ?_
    clear hK K
    refine WQ_step (fun K hK => ?_)
    simp only [SQ_eq]
    go_simp
    refine Exists.intro (Value.bool q) (And.intro (fun w' hw => ((hBc.out w' (hQ.out w' hw).p).mono (fun e z h => ⟨h.1, ⟨hw.b.trans (h.2.mono hw.b.size)⟩⟩))) ?_)
    go_simp
    refine hK _ ?_
    clear hK K
    iterate 12 (refine WQ_step (fun K hK => ?_); simp only [SQ_eq]; go_simp; refine hK _ ?_; clear hK K)
    refine WQ_nil (fun W5 hW5 => ?_)
    clear hconst hC0
    have hfin := hidI2 (hz4.out.trans (hW5.b.mono hz4.out.size))
    go_wp2_with fail
    go_ret
    exact ⟨rfl, hfin.out⟩
  · rw [decide_eq_false hfew] at hfw
    have hfwH := hidI2 hfw
    clear hfw hk hd
    go_wp2_with fail
    refine hfwH.out.mono ?_
    rintro e w2 ⟨rfl, hb2⟩
    have hz := hidI2 (hz1.out.trans (hb2.mono hz1.out.size))
    clear hfwH hb2 c0 c1 c2 c3 c4 c5 c6
    go_wp2_with fail
    go_ret
    exact ⟨rfl, hz.out⟩
end Go.Proofs.YtehlnhljpdjppaaGreatDoor
