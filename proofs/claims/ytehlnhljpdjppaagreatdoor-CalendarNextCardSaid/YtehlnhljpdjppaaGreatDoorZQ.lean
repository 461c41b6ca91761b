import Derived.Test.YtehlnhljpdjppaaGreatDoorZO
import Derived.Test.YtehlnhljpdjppaaGreatDoorZP
import Derived.Test.YtehlnhljpdjppaaGreatDoorZH
/- Contracts of the reference's time of a day. -/
namespace Go.Proofs.YtehlnhljpdjppaaGreatDoor
open Go.RowKit
def tmB (c : Cal.C7) (x : Int) : Bool := Cal.inL c.hour (x / 3600) && (Cal.inL c.minute (x / 60 % 60) && Cal.inL c.second (x % 60))
/-- The least second that matches, or none. -/
def TimR (c : Cal.C7) (f r : Int) : Prop := (r = -1 ∧ ∀ x, f ≤ x → x < 86400 → tmB c x = false) ∨ (f ≤ r ∧ r < 86400 ∧ tmB c r = true ∧ ∀ x, f ≤ x → x < r → tmB c x = false)
theorem tmB_hour {c : Cal.C7} {s x : Int} (h : Cal.inL c.hour (s / 3600) = false) (h0 : s ≤ x) (h1 : x < s / 3600 * 3600 + 3600) : tmB c x = false := by
  unfold tmB
  rw [show x / 3600 = s / 3600 by omega, h]; rfl
theorem tmB_min {c : Cal.C7} {s x : Int} (h : Cal.inL c.minute (s / 60 % 60) = false) (h0 : s ≤ x) (h1 : x < s / 60 * 60 + 60) : tmB c x = false := by
  unfold tmB
  rw [show x / 60 = s / 60 by omega, h]; simp
structure TC (b : Nat) (S : Nat → Sl) (c : Cal.C7) (W : World) : Prop where
  c4 : W.cell? ⟨b, 4, none⟩ = some (slv (S 4))
  c5 : W.cell? ⟨b, 5, none⟩ = some (slv (S 5))
  c6 : W.cell? ⟨b, 6, none⟩ = some (slv (S 6))
  p : CalPin (fun _ => False) W S c
theorem TC.next {b : Nat} {S : Nat → Sl} {c : Cal.C7} {W V : World} (h : TC b S c W) (hb : Below W.heap.size W V) : TC b S c V :=
  ⟨(hb.cell (cell_lt h.c4)).trans h.c4, (hb.cell (cell_lt h.c5)).trans h.c5, (hb.cell (cell_lt h.c6)).trans h.c6, h.p.below hb⟩
set_option maxRecDepth 100000 in
set_option maxHeartbeats 4000000 in
theorem rtime_any (S : Nat → Sl) (c : Cal.C7) (f : Int) (w : World) (hp : CalPin (fun _ => False) w S c) (hok : CalOk c) (f0 : 0 ≤ f) (f1 : f < 86400) :
    Calls Tryz.prog 20 #[aggC S, .int .i64 f] w fun e w' => (∃ r, e = .returned (.int .i64 r) ∧ TimR c f r) ∧ Below w.heap.size w w' := by
  obtain ⟨W, hW⟩ : ∃ W, w.alloc (.cells #[slv (S 0), slv (S 1), slv (S 2), slv (S 3), slv (S 4), slv (S 5), slv (S 6)] 24) = W := ⟨_, rfl⟩
  have hB : Below w.heap.size w W := by rw [← hW]; exact (Below.refl _ _).alloc (Nat.le_refl _) _
  have hTC : Hid (TC w.heap.size S c W) := by
    show TC _ _ _ _
    refine ⟨?_, ?_, ?_, hp.below hB⟩ <;> (rw [← hW]; exact cell_at rfl rfl)
  have hBH := hidI2 hB
  clear hp hB
  go_enter Tryz.func20, Tryz.ntmps20
  go_wp2_with (rw [hW])
  go_loopw [5] (fun i wr => ∃ s : Int, f ≤ s ∧ s ≤ 86400 ∧ i = .int .i64 s ∧ Hid (∀ x, f ≤ x → x < s → tmB c x = false) ∧ Hid (Below W.heap.size W wr)) (fun i _ => (86400 - intOf i).toNat)
  case atStart => exact ⟨f, by omega, by omega, rfl, fun x h1 h2 => by omega, Below.refl _ _⟩
  case round =>
    obtain ⟨s, s0, s1, rfl, hno, hb⟩ := hrel
    have hbw : Hid (Below w.heap.size w wr) := hBH.out.trans (hb.out.mono hBH.out.size)
    by_cases hs : s < 86400
    · have hT := hTC.out.next hb.out
      have h4 := hT.c4
      have hH := rIn_any c.hour (s / 3600) _ wr hT.p.p4 hok.o4 (by omega) (by omega)
      have hd1 : s.tdiv 3600 = s / 3600 := Int.tdiv_eq_ediv_of_nonneg (by omega)
      have hd2 : s.tdiv 60 = s / 60 := Int.tdiv_eq_ediv_of_nonneg (by omega)
      have hm1 : (s / 60).tmod 60 = s / 60 % 60 := Int.tmod_eq_emod_of_nonneg (by omega)
      have hm2 : s.tmod 60 = s % 60 := Int.tmod_eq_emod_of_nonneg (by omega)
      cases hh : Cal.inL c.hour (s / 3600) with
      | false =>
        rw [hh] at hH
        have hHH := hidI2 hH
        have hnx : Hid (∀ x, f ≤ x → x < s / 3600 * 3600 + 3599 + 1 → tmB c x = false) := fun x h1 h2 => by
          by_cases e : x < s
          · exact hno.out x h1 e
          · exact tmB_hour hh (by omega) (by omega)
        have q0 : 0 ≤ s / 3600 := by omega
        have q1 : s / 3600 < 24 := by omega
        clear hT hH hno hh
        go_wp2_with fail
        refine hHH.out.mono ?_
        rintro e w2 ⟨rfl, hb2⟩
        have hb2H := hidI2 (hb.out.trans (hb2.mono hb.out.size))
        clear hb2 hHH
        go_wp2_with fail
        exact ⟨⟨s / 3600 * 3600 + 3599 + 1, by omega, by omega, by go_num, hnx, hb2H⟩, by simp [intOf]; omega⟩
      | true =>
        rw [hh] at hH
        have hHH := hidI2 hH
        go_wp2_with fail
        refine hHH.out.mono ?_
        rintro e w2 ⟨rfl, hb2⟩
        have hz2 := hidI2 (hb.out.trans (hb2.mono hb.out.size))
        have hT2 := hTC.out.next hz2.out
        have h5 := hT2.c5
        have hM := rIn_any c.minute (s / 60 % 60) _ w2 hT2.p.p5 hok.o5 (by omega) (by omega)
        cases hm : Cal.inL c.minute (s / 60 % 60) with
        | false =>
          rw [hm] at hM
          have hMH := hidI2 hM
          have hnx : Hid (∀ x, f ≤ x → x < s / 60 * 60 + 59 + 1 → tmB c x = false) := fun x h1 h2 => by
            by_cases e : x < s
            · exact hno.out x h1 e
            · exact tmB_min hm (by omega) (by omega)
          have q0 : 0 ≤ s / 60 := by omega
          have q1 : s / 60 < 1440 := by omega
          clear hT hH hno hh hT2 hM hm hb2 hHH h4
          go_wp2_with fail
          refine hMH.out.mono ?_
          rintro e w3 ⟨rfl, hb3⟩
          have hb3H := hidI2 (hz2.out.trans (hb3.mono hz2.out.size))
          clear hb3 hMH
          go_wp2_with fail
          exact ⟨⟨s / 60 * 60 + 59 + 1, by omega, by omega, by go_num, hnx, hb3H⟩, by simp [intOf]; omega⟩
        | true =>
          rw [hm] at hM
          have hMH := hidI2 hM
          clear hT hH hT2 hM hb2 hHH h4
          go_wp2_with fail
          refine hMH.out.mono ?_
          rintro e w3 ⟨rfl, hb3⟩
          have hz3 := hidI2 (hz2.out.trans (hb3.mono hz2.out.size))
          have hT3 := hTC.out.next hz3.out
          have h6 := hT3.c6
          have hS := rIn_any c.second (s % 60) _ w3 hT3.p.p6 hok.o6 (by omega) (by omega)
          have htm : Hid (tmB c s = Cal.inL c.second (s % 60)) := by show _ = _; unfold tmB; rw [hh, hm]; simp
          have hSH := hidI2 hS
          clear hS hT3 hb3 hMH hh hm h5
          cases hsx : Cal.inL c.second (s % 60) with
          | false =>
            rw [hsx] at hSH htm
            have hnx : Hid (∀ x, f ≤ x → x < s + 1 → tmB c x = false) := fun x h1 h2 => by
              by_cases e : x < s
              · exact hno.out x h1 e
              · obtain rfl : x = s := by omega
                exact htm.out
            clear hsx hno
            go_wp2_with fail
            refine hSH.out.mono ?_
            rintro e w4 ⟨rfl, hb4⟩
            have hb4H := hidI2 (hz3.out.trans (hb4.mono hz3.out.size))
            clear hb4 hSH
            go_wp2_with fail
            exact ⟨⟨s + 1, by omega, by omega, by go_num, hnx, hb4H⟩, by simp [intOf]; omega⟩
          | true =>
            rw [hsx] at hSH htm
            clear hsx
            go_wp2_with fail
            refine hSH.out.mono ?_
            rintro e w4 ⟨rfl, hb4⟩
            have hb4H := hidI2 (hBH.out.trans ((hz3.out.trans (hb4.mono hz3.out.size)).mono hBH.out.size))
            clear hb4 hSH
            go_wp2_with fail
            go_ret
            exact ⟨⟨s, rfl, .inr ⟨s0, hs, htm.out, hno.out⟩⟩, hb4H.out⟩
    · obtain rfl : s = 86400 := by omega
      go_wp2_with fail
      go_ret
      exact ⟨⟨-1, rfl, .inl ⟨rfl, hno.out⟩⟩, hbw.out⟩
end Go.Proofs.YtehlnhljpdjppaaGreatDoor
/- Contracts of the reference's rest and tomorrow. -/
namespace Go.Proofs.YtehlnhljpdjppaaGreatDoor
open Go.RowKit
structure DD (b : Nat) (y m d : Int) (W : World) : Prop where
  d0 : W.cell? ⟨b, 0, none⟩ = some (.int .i64 y)
  d1 : W.cell? ⟨b, 1, none⟩ = some (.int .i64 m)
  d2 : W.cell? ⟨b, 2, none⟩ = some (.int .i64 d)
theorem DD.next {b : Nat} {y m d : Int} {W V : World} (h : DD b y m d W) (hb : Below W.heap.size W V) : DD b y m d V :=
  ⟨(hb.cell (cell_lt h.d0)).trans h.d0, (hb.cell (cell_lt h.d1)).trans h.d1, (hb.cell (cell_lt h.d2)).trans h.d2⟩
theorem cum_at (y : Int) {m : Int} (m0 : 1 ≤ m) : Civ.cum y m.toNat = Civ.cum y (m - 1).toNat + Civ.dim y m := by
  obtain ⟨k, rfl⟩ : ∃ k : Nat, m = (k : Int) + 1 := ⟨(m - 1).toNat, by omega⟩
  rw [show ((k : Int) + 1).toNat = k + 1 by omega, show ((k : Int) + 1 - 1).toNat = k by omega, Civ.cum_succ]
theorem rest_num {y m d : Int} : Civ.cum y 12 - Civ.cum y (m - 1).toNat - d + 1 = Civ.dby (y + 1) - Civ.num y m d := by
  unfold Civ.num
  rw [Civ.dby_succ, Civ.cum_12]
  omega
set_option maxRecDepth 100000 in
set_option maxHeartbeats 4000000 in
theorem rrest_any (y m d : Int) (w : World) (hv : Civ.vldB y m d = true) :
    Calls Tryz.prog 18 #[.agg #[.int .i64 y, .int .i64 m, .int .i64 d]] w fun e w' => e = .returned (.int .i64 (Civ.dby (y + 1) - Civ.num y m d)) ∧ Below w.heap.size w w' := by
  obtain ⟨y0, y1, m0, m1, d0, d1⟩ := Civ.vldB_iff.1 hv
  have hdb := Civ.dim_bd y m
  obtain ⟨D, hD⟩ : ∃ D, Civ.dim y m = D := ⟨_, rfl⟩
  have hDH := hidI2 hD
  rw [hD] at hdb d1
  clear hD hv
  obtain ⟨W, hW⟩ : ∃ W, w.alloc (.cells #[.int .i64 y, .int .i64 m, .int .i64 d] 26) = W := ⟨_, rfl⟩
  have hB : Hid (Below w.heap.size w W) := by show Below _ _ _; rw [← hW]; exact (Below.refl _ _).alloc (Nat.le_refl _) _
  have hDD : Hid (DD w.heap.size y m d W) := by
    show DD _ _ _ _ _
    refine ⟨?_, ?_, ?_⟩ <;> (rw [← hW]; exact cell_at rfl rfl)
  go_enter Tryz.func18, Tryz.ntmps18
  go_upto_region 1 with (rw [hW])
  have hC0 : Hid (QD W { W with drawn := W.drawn + 1 }) := QD.mk (Below.refl _ W).drew
  have hQ : Hid (∀ y', QD W y' → DD w.heap.size y m d y') := fun y' h => hDD.out.next h.b
  have hconst : ∀ p : Prop, (∀ w', QD W w' → p) = p := fun p => propext ⟨fun h => h _ hC0.out, fun h _ _ => h⟩
  refine region_WQ (C := QD W) (by kernel_rfl) (by kernel_rfl) hC0.out ?_
  iterate 1 (refine WQ_step (fun K hK => ?_); simp only [SQ_eq]; go_simp; refine hK _ ?_; clear hK K)
  refine WQ_step (fun K hK => ?_)
  simp only [SQ_eq]
  go_simp
  refine Exists.intro (Value.int .i64 y) (And.intro (fun w' hw => (by have h := (hQ.out w' hw).d0; simp [h])) ?_)
  go_simp
  refine hK _ ?_
  clear hK K
  iterate 1 (refine WQ_step (fun K hK => ?_); simp only [SQ_eq]; go_simp; refine hK _ ?_; clear hK K)
  refine WQ_step (fun K hK => ?_)
  simp only [SQ_eq]
  go_simp
  refine Exists.intro (Value.int .i64 m) (And.intro (fun w' hw => (by have h := (hQ.out w' hw).d1; simp [h])) ?_)
  go_simp
  refine hK _ ?_
  clear hK K
  refine WQ_step (fun K hK => ?_)
  simp only [SQ_eq]
  go_simp
  refine Exists.intro (Value.int .i64 D) (And.intro (fun w' hw => ((rLength_any y m w' (by omega) (by omega) (by omega) (by omega)).mono (fun e z h => ⟨by rw [h.1, hDH.out], ⟨hw.b.trans (h.2.mono hw.b.size)⟩⟩))) ?_)
  go_simp
  refine hK _ ?_
  clear hK K
  iterate 1 (refine WQ_step (fun K hK => ?_); simp only [SQ_eq]; go_simp; refine hK _ ?_; clear hK K)
  refine WQ_step (fun K hK => ?_)
  simp only [SQ_eq]
  go_simp
  refine Exists.intro (Value.int .i64 d) (And.intro (fun w' hw => (by have h := (hQ.out w' hw).d2; simp [h])) ?_)
  go_simp
  refine hK _ ?_
  clear hK K
  iterate 3 (refine WQ_step (fun K hK => ?_); simp only [SQ_eq]; go_simp; refine hK _ ?_; clear hK K)
  refine WQ_nil (fun W1 hW1 => ?_)
  clear hconst hC0
  have hz1 := hidI2 (hB.out.trans (hW1.b.mono hB.out.size))
  have hD1 := hidI2 (hDD.out.next hW1.b)
  have h1 := hD1.out.d1
  go_wp2_with fail
  go_loopw [3, 4] (fun a b wr => ∃ k : Int, m + 1 ≤ k ∧ k ≤ 13 ∧ b = .int .i64 k ∧ a = .int .i64 (Civ.cum y (k - 1).toNat - Civ.cum y (m - 1).toNat - d + 1) ∧ Hid (Below W1.heap.size W1 wr)) (fun _ b _ => (13 - intOf b).toNat)
  case atStart =>
    refine ⟨m + 1, by omega, by omega, by go_num, ?_, Below.refl _ _⟩
    rw [show m + 1 - 1 = m by omega, cum_at y m0, hDH.out]
    have : D - d + 1 = Civ.cum y (m - 1).toNat + D - Civ.cum y (m - 1).toNat - d + 1 := by omega
    rw [← this]
    have hw1 : IntKind.i64.wrap (D - d) = D - d := by rw [IntKind.wrap_i64]; omega
    have hw2 : IntKind.i64.wrap (D - d + 1) = D - d + 1 := by rw [IntKind.wrap_i64]; omega
    rw [hw1, hw2]
  case round =>
    obtain ⟨k, k0, k1, rfl, rfl, hb⟩ := hrel
    have hzr := hidI2 (hz1.out.trans (hb.out.mono hz1.out.size))
    have hr0 := (hD1.out.next hb.out).d0
    have c1 := Civ.cum_bd y (k := (k - 1).toNat) (by omega)
    have c2 := Civ.cum_bd y (k := (m - 1).toNat) (by omega)
    clear h1
    by_cases hk : k ≤ 12
    · have hL := hidI2 (rLength_any y k wr (by omega) (by omega) (by omega) hk)
      have hdk := Civ.dim_bd y k
      have hnx : Hid (Civ.cum y (k + 1 - 1).toNat - Civ.cum y (m - 1).toNat - d + 1 = Civ.cum y (k - 1).toNat - Civ.cum y (m - 1).toNat - d + 1 + Civ.dim y k) := by
        show _ = _
        rw [show k + 1 - 1 = k by omega, cum_at y (by omega : 1 ≤ k)]
        omega
      obtain ⟨A, hA⟩ : ∃ A, Civ.cum y (k - 1).toNat - Civ.cum y (m - 1).toNat - d + 1 = A := ⟨_, rfl⟩
      obtain ⟨E, hE⟩ : ∃ E, Civ.dim y k = E := ⟨_, rfl⟩
      have hA1 : -1000 ≤ A ∧ A ≤ 1000 := by omega
      rw [hA, hE] at hnx
      rw [hE] at hL hdk
      rw [hA]
      clear hA hE c1 c2
      go_wp2_with fail
      refine hL.out.mono ?_
      rintro e w2 ⟨rfl, hb2⟩
      have hb2H := hidI2 (hb.out.trans (hb2.mono hb.out.size))
      clear hb2 hL
      go_wp2_with fail
      exact ⟨⟨k + 1, by omega, by omega, by go_num, by rw [hnx.out], hb2H⟩, by simp [intOf]; omega⟩
    · obtain rfl : k = 13 := by omega
      have hr := hidI2 (rest_num (y := y) (m := m) (d := d))
      go_wp2_with fail
      go_ret
      exact ⟨ret_int (by rw [show m.toNat - 1 = (m - 1).toNat by omega]; exact hr.out), hzr.out⟩
/-- The day behind. -/
def tmD (y m d : Int) : Int × Int × Int := if d + 1 ≤ Civ.dim y m then (y, m, d + 1) else if m + 1 ≤ 12 then (y, m + 1, 1) else (y + 1, 1, 1)
theorem tm_num {y m d : Int} (hv : Civ.vldB y m d = true) : Civ.num (tmD y m d).1 (tmD y m d).2.1 (tmD y m d).2.2 = Civ.num y m d + 1 ∧ ((tmD y m d).1 ≤ 2200 → Civ.vldB (tmD y m d).1 (tmD y m d).2.1 (tmD y m d).2.2 = true) ∧ y ≤ (tmD y m d).1 ∧ (tmD y m d).1 ≤ y + 1 := by
  obtain ⟨y0, y1, m0, m1, d0, d1⟩ := Civ.vldB_iff.1 hv
  unfold tmD
  by_cases h1 : d + 1 ≤ Civ.dim y m
  · rw [if_pos h1]
    refine ⟨by show Civ.num y m (d + 1) = _; unfold Civ.num; omega, fun _ => Civ.vldB_iff.2 ⟨y0, y1, m0, m1, by show 1 ≤ d + 1; omega, h1⟩, Int.le_refl _, by show y ≤ y + 1; omega⟩
  · rw [if_neg h1]
    have hd : d = Civ.dim y m := by omega
    by_cases h2 : m + 1 ≤ 12
    · rw [if_pos h2]
      have hdb := Civ.dim_bd y (m + 1)
      refine ⟨?_, fun _ => Civ.vldB_iff.2 ⟨y0, y1, by show 1 ≤ m + 1; omega, h2, by show (1 : Int) ≤ 1; omega, by show (1 : Int) ≤ Civ.dim y (m + 1); omega⟩, Int.le_refl _, by show y ≤ y + 1; omega⟩
      show Civ.num y (m + 1) 1 = _
      unfold Civ.num
      rw [show m + 1 - 1 = m by omega, cum_at y m0, hd]
      omega
    · rw [if_neg h2]
      have hm : m = 12 := by omega
      subst hm
      have hdb := Civ.dim_bd (y + 1) 1
      refine ⟨?_, fun h => Civ.vldB_iff.2 ⟨by show 1970 ≤ y + 1; omega, h, by show (1 : Int) ≤ 1; omega, by show (1 : Int) ≤ 12; omega, by show (1 : Int) ≤ 1; omega, by show (1 : Int) ≤ Civ.dim (y + 1) 1; omega⟩, by show y ≤ y + 1; omega, by show y + 1 ≤ y + 1; omega⟩
      show Civ.num (y + 1) 1 1 = _
      have h12 := cum_at y (m := 12) (by omega)
      have e12 := Civ.cum_12 y
      unfold Civ.num
      rw [Civ.dby_succ, hd]
      simp only [show ((12 : Int)).toNat = 12 from rfl] at h12
      have e0 : Civ.cum (y + 1) (1 - 1 : Int).toNat = 0 := rfl
      rw [e0]
      omega
theorem cells_of {W : World} {b : Nat} {cs : Array Value} {t : TypeId} (h : W.heap[b]? = some (.cells cs t)) {j : Nat} {v : Value} (hj : cs[j]? = some v) : W.cell? ⟨b, j, none⟩ = some v := by
  unfold World.cell?
  rw [h]
  exact hj
theorem froz_of {W : World} {b : Nat} {cs : Array Value} {t : TypeId} (h : W.heap[b]? = some (.cells cs t)) {j : Nat} : W.frozen? ⟨b, j, none⟩ = false := by
  unfold World.frozen?
  rw [h]
  simp
theorem lt_of_heap {w : World} {b : Nat} {o : Obj} (h : w.heap[b]? = some o) : b < w.heap.size := (Array.getElem?_eq_some_iff.1 h).1
theorem put3 {W : World} {b : Nat} {a0 a1 a2 : Value} {t : TypeId} (h4 : W.heap[b]? = some (.cells #[a0, a1, a2] t)) (v0 v1 v2 : Value) {V : World} (hV : ((W.setCell ⟨b, 0, none⟩ v0).setCell ⟨b, 1, none⟩ v1).setCell ⟨b, 2, none⟩ v2 = V) :
    V.cell? ⟨b, 0, none⟩ = some v0 ∧ V.cell? ⟨b, 1, none⟩ = some v1 ∧ V.cell? ⟨b, 2, none⟩ = some v2 := by
  have e4 : V.heap[b]? = some (.cells #[v0, v1, v2] t) := by rw [← hV]; simp [World.setCell, Array.getElem?_modify, h4]
  exact ⟨cells_of e4 rfl, cells_of e4 rfl, cells_of e4 rfl⟩
theorem heap_set3 {W : World} {b : Nat} {o : Obj} (h : W.heap[b]? = some o) {p : Addr} (hp : p.block ≠ b) (v : Value) : (W.setCell p v).heap[b]? = some o := by
  simp only [World.setCell]
  rw [Array.getElem?_modify, if_neg hp]
  exact h
/-- From W to V nothing turns below b. -/
structure Mv3 (b : Nat) (W V : World) : Prop where
  b : Below b W V
theorem Mv3.refl {b : Nat} (W : World) (_ : b ≤ W.heap.size) : Mv3 b W W := ⟨Below.refl _ _⟩
theorem Mv3.set {b : Nat} {W V : World} (h : Mv3 b W V) (p : Addr) (v : Value) (hp : b ≤ p.block) : Mv3 b W (V.setCell p v) :=
  ⟨⟨h.b.os, h.b.tape, h.b.output, by have := h.b.size; simpa [World.setCell] using this, fun k hk => by
    rw [← h.b.block k hk]; simp only [World.setCell]; rw [Array.getElem?_modify, if_neg (by omega)]⟩⟩
set_option maxRecDepth 100000 in
set_option maxHeartbeats 4000000 in
theorem rtom_any (y m d : Int) (w : World) (hv : Civ.vldB y m d = true) :
    Calls Tryz.prog 21 #[.agg #[.int .i64 y, .int .i64 m, .int .i64 d]] w fun e w' => e = .returned (.agg #[.int .i64 (tmD y m d).1, .int .i64 (tmD y m d).2.1, .int .i64 (tmD y m d).2.2]) ∧ Below w.heap.size w w' := by
  obtain ⟨y0, y1, m0, m1, d0, d1⟩ := Civ.vldB_iff.1 hv
  have hdb := Civ.dim_bd y m
  have htm : Hid (tmD y m d = if d + 1 ≤ Civ.dim y m then (y, m, d + 1) else if m + 1 ≤ 12 then (y, m + 1, 1) else (y + 1, 1, 1)) := rfl
  obtain ⟨D, hD⟩ : ∃ D, Civ.dim y m = D := ⟨_, rfl⟩
  have hDH := hidI2 hD
  rw [hD] at hdb d1 htm
  clear hD hv
  obtain ⟨W, hW⟩ : ∃ W, (w.alloc (.cells #[.int .i64 y, .int .i64 m, .int .i64 (d + 1)] 26)).alloc (.cells #[.int .i64 0, .int .i64 0, .int .i64 0] 26) = W := ⟨_, rfl⟩
  have hB : Hid (Below w.heap.size w W) := by show Below _ _ _; rw [← hW]; exact ((Below.refl _ _).alloc (Nat.le_refl _) _).alloc (by simp) _
  have hb0 : W.heap[w.heap.size]? = some (.cells #[.int .i64 y, .int .i64 m, .int .i64 (d + 1)] 26) := by
    rw [← hW]; exact (Below.heap_alloc _ _ _ (by simp)).trans (heap_alloc_new w _)
  have hb1 : W.heap[w.heap.size + 1]? = some (.cells #[.int .i64 0, .int .i64 0, .int .i64 0] 26) := by
    rw [← hW]; have := heap_alloc_new (w.alloc (.cells #[.int .i64 y, .int .i64 m, .int .i64 (d + 1)] 26)) (.cells #[.int .i64 0, .int .i64 0, .int .i64 0] 26); simpa using this
  have hDD : Hid (DD w.heap.size y m (d + 1) W) := ⟨cells_of hb0 rfl, cells_of hb0 rfl, cells_of hb0 rfl⟩
  have hb0H := hidI2 hb0
  have hb1H := hidI2 hb1
  clear hb0 hb1
  go_enter Tryz.func21, Tryz.ntmps21
  go_upto_region 2 with (rw [hW])
  have hC0 : Hid (QD W { W with drawn := W.drawn + 1 }) := QD.mk (Below.refl _ W).drew
  have hQ : Hid (∀ y', QD W y' → DD w.heap.size y m (d + 1) y') := fun y' h => hDD.out.next h.b
  have hconst : ∀ p : Prop, (∀ w', QD W w' → p) = p := fun p => propext ⟨fun h => h _ hC0.out, fun h _ _ => h⟩
  refine region_WQ (C := QD W) (by kernel_rfl) (by kernel_rfl) hC0.out ?_
  iterate 1 (refine WQ_step (fun K hK => ?_); simp only [SQ_eq]; go_simp; refine hK _ ?_; clear hK K)
  refine WQ_step (fun K hK => ?_)
  simp only [SQ_eq]
  go_simp
  refine Exists.intro (Value.int .i64 (d + 1)) (And.intro (fun w' hw => (by have h := (hQ.out w' hw).d2; simp [h])) ?_)
  go_simp
  refine hK _ ?_
  clear hK K
  iterate 1 (refine WQ_step (fun K hK => ?_); simp only [SQ_eq]; go_simp; refine hK _ ?_; clear hK K)
  refine WQ_step (fun K hK => ?_)
  simp only [SQ_eq]
  go_simp
  refine Exists.intro (Value.int .i64 y) (And.intro (fun w' hw => (by have h := (hQ.out w' hw).d0; simp [h])) ?_)
  go_simp
  refine hK _ ?_
  clear hK K
  iterate 1 (refine WQ_step (fun K hK => ?_); simp only [SQ_eq]; go_simp; refine hK _ ?_; clear hK K)
  refine WQ_step (fun K hK => ?_)
  simp only [SQ_eq]
  go_simp
  refine Exists.intro (Value.int .i64 m) (And.intro (fun w' hw => (by have h := (hQ.out w' hw).d1; simp [h])) ?_)
  go_simp
  refine hK _ ?_
  clear hK K
  refine WQ_step (fun K hK => ?_)
  simp only [SQ_eq]
  go_simp
  refine Exists.intro (Value.int .i64 D) (And.intro (fun w' hw => ((rLength_any y m w' (by omega) (by omega) (by omega) (by omega)).mono (fun e z h => ⟨by rw [h.1, hDH.out], ⟨hw.b.trans (h.2.mono hw.b.size)⟩⟩))) ?_)
  go_simp
  refine hK _ ?_
  clear hK K
  iterate 1 (refine WQ_step (fun K hK => ?_); simp only [SQ_eq]; go_simp; refine hK _ ?_; clear hK K)
  refine WQ_nil (fun W1 hW1 => ?_)
  clear hconst hC0
  have hlt0 : w.heap.size < W.heap.size := lt_of_heap hb0H.out
  have hlt1 : w.heap.size + 1 < W.heap.size := lt_of_heap hb1H.out
  have g0 := (hW1.b.block _ hlt0).trans hb0H.out
  have g1 := (hW1.b.block _ hlt1).trans hb1H.out
  have hz1 := hidI2 (hB.out.trans (hW1.b.mono hB.out.size))
  have x0 := cells_of g0 (j := 0) rfl
  have x1 := cells_of g0 (j := 1) rfl
  have x2 := cells_of g0 (j := 2) rfl
  have y0' := cells_of g1 (j := 0) rfl
  have y1' := cells_of g1 (j := 1) rfl
  have y2' := cells_of g1 (j := 2) rfl
  have f0 := froz_of g0 (j := 0)
  have f1 := froz_of g0 (j := 1)
  have f2 := froz_of g0 (j := 2)
  have e0 := froz_of g1 (j := 0)
  have e1 := froz_of g1 (j := 1)
  have e2 := froz_of g1 (j := 2)
  have g0H := hidI2 g0
  have g1H := hidI2 g1
  clear g0 g1 hQ hDD hb0H hb1H hB hlt0 hlt1 hW
  have hfin : Hid (∀ V, Mv3 w.heap.size W1 V → Below w.heap.size w V) := fun V m => hz1.out.trans m.b
  by_cases h1 : d + 1 ≤ D
  · rw [if_pos h1] at htm
    have h1b : decide (D < d + 1) = false := by simp; omega
    have h1c : ¬ D < d + 1 := by omega
    go_wp2_with fail
    refine bodyPost_ret (v := .agg #[.int .i64 y, .int .i64 m, .int .i64 (d + 1)]) ?_ rfl ⟨by rw [htm.out], hfin.out _ ((((Mv3.refl _ hz1.out.size).set _ _ (by simp)).set _ _ (by simp)).set _ _ (by simp))⟩
    have hc := put3 g1H.out (.int .i64 y) (.int .i64 m) (.int .i64 (d + 1)) rfl
    simp [results, Tryz.results21, go_sem, hc.1, hc.2.1, hc.2.2]
  · rw [if_neg h1] at htm
    have h1c : D < d + 1 := by omega
    by_cases h2 : m + 1 ≤ 12
    · rw [if_pos h2] at htm
      have h2b : ¬ 12 < m + 1 := by omega
      go_wp2_with fail
      refine bodyPost_ret (v := .agg #[.int .i64 y, .int .i64 (m + 1), .int .i64 1]) ?_ rfl ⟨by rw [htm.out], hfin.out _ ((((((Mv3.refl _ hz1.out.size).set _ _ (by simp)).set _ _ (by simp)).set _ _ (by simp)).set _ _ (by simp)).set _ _ (by simp))⟩
      have hc := put3 (heap_set3 (heap_set3 g1H.out (p := ⟨w.heap.size, 2, none⟩) (by simp) (.int .i64 1)) (p := ⟨w.heap.size, 1, none⟩) (by simp) (.int .i64 (m + 1))) (.int .i64 y) (.int .i64 (m + 1)) (.int .i64 1) rfl
      simp [results, Tryz.results21, go_sem, hc.1, hc.2.1, hc.2.2]
    · rw [if_neg h2] at htm
      obtain rfl : m = 12 := by omega
      have hx : (((W1.setCell ⟨w.heap.size, 2, none⟩ (.int .i64 1)).setCell ⟨w.heap.size, 1, none⟩ (.int .i64 13)).setCell ⟨w.heap.size, 1, none⟩ (.int .i64 1)).cell? ⟨w.heap.size, 1, none⟩ = some (.int .i64 1) :=
        World.cell?_setCell_same' _ _ _ (by rw [World.cell?_setCell_same' _ _ _ (by rw [World.cell?_setCell_other _ _ _ _ (by simp), x1]; rfl)]; rfl)
      go_wp2_with fail
      refine bodyPost_ret (v := .agg #[.int .i64 (y + 1), .int .i64 1, .int .i64 1]) ?_ rfl ⟨by rw [htm.out], hfin.out _ ((((((((Mv3.refl _ hz1.out.size).set _ _ (by simp)).set _ _ (by simp)).set _ _ (by simp)).set _ _ (by simp)).set _ _ (by simp)).set _ _ (by simp)).set _ _ (by simp))⟩
      have hc := put3 (heap_set3 (heap_set3 (heap_set3 (heap_set3 g1H.out (p := ⟨w.heap.size, 2, none⟩) (by simp) (.int .i64 1)) (p := ⟨w.heap.size, 1, none⟩) (by simp) (.int .i64 13)) (p := ⟨w.heap.size, 1, none⟩) (by simp) (.int .i64 1)) (p := ⟨w.heap.size, 0, none⟩) (by simp) (.int .i64 (y + 1))) (.int .i64 (y + 1)) (.int .i64 1) (.int .i64 1) rfl
      simp [results, Tryz.results21, go_sem, hc.1, hc.2.1, hc.2.2]
end Go.Proofs.YtehlnhljpdjppaaGreatDoor
/- The contract of the reference's Matches. -/
namespace Go.Proofs.YtehlnhljpdjppaaGreatDoor
open Go.RowKit
structure MC6 (b : Nat) (S : Nat → Sl) (c : Cal.C7) (y m d h mi s : Int) (W : World) : Prop where
  c0 : W.cell? ⟨b, 0, none⟩ = some (slv (S 0))
  c1 : W.cell? ⟨b, 1, none⟩ = some (slv (S 1))
  c2 : W.cell? ⟨b, 2, none⟩ = some (slv (S 2))
  c3 : W.cell? ⟨b, 3, none⟩ = some (slv (S 3))
  c4 : W.cell? ⟨b, 4, none⟩ = some (slv (S 4))
  c5 : W.cell? ⟨b, 5, none⟩ = some (slv (S 5))
  c6 : W.cell? ⟨b, 6, none⟩ = some (slv (S 6))
  e0 : W.cell? ⟨b + 1, 0, none⟩ = some (.int .i64 y)
  e1 : W.cell? ⟨b + 1, 1, none⟩ = some (.int .i64 m)
  e2 : W.cell? ⟨b + 1, 2, none⟩ = some (.int .i64 d)
  e3 : W.cell? ⟨b + 1, 3, none⟩ = some (.int .i64 h)
  e4 : W.cell? ⟨b + 1, 4, none⟩ = some (.int .i64 mi)
  e5 : W.cell? ⟨b + 1, 5, none⟩ = some (.int .i64 s)
  p : CalPin (fun _ => False) W S c
theorem MC6.next {b : Nat} {S : Nat → Sl} {c : Cal.C7} {y m d h mi s : Int} {W V : World} (k : MC6 b S c y m d h mi s W) (hb : Below W.heap.size W V) : MC6 b S c y m d h mi s V :=
  ⟨(hb.cell (cell_lt k.c0)).trans k.c0, (hb.cell (cell_lt k.c1)).trans k.c1, (hb.cell (cell_lt k.c2)).trans k.c2, (hb.cell (cell_lt k.c3)).trans k.c3, (hb.cell (cell_lt k.c4)).trans k.c4, (hb.cell (cell_lt k.c5)).trans k.c5, (hb.cell (cell_lt k.c6)).trans k.c6, (hb.cell (cell_lt k.e0)).trans k.e0, (hb.cell (cell_lt k.e1)).trans k.e1, (hb.cell (cell_lt k.e2)).trans k.e2, (hb.cell (cell_lt k.e3)).trans k.e3, (hb.cell (cell_lt k.e4)).trans k.e4, (hb.cell (cell_lt k.e5)).trans k.e5, k.p.below hb⟩
theorem mtM_dt (c : Cal.C7) (y m d h mi s : Int) : mtM c y m d h mi s = (dtB c y m d (Civ.num y m d) && (Cal.inL c.hour h && (Cal.inL c.minute mi && Cal.inL c.second s))) := by
  unfold mtM dtB
  simp [Bool.and_assoc]
set_option maxRecDepth 100000 in
set_option maxHeartbeats 4000000 in
theorem rmatch_any (S : Nat → Sl) (c : Cal.C7) (y m d h mi s : Int) (w : World) (hp : CalPin (fun _ => False) w S c) :
    Calls Tryz.prog 9 #[aggC S, momV y m d h mi s] w fun e w' => e = .returned (.bool (isB c && ((Civ.vldB y m d && Civ.timB h mi s) && mtM c y m d h mi s))) ∧ Below w.heap.size w w' := by
  obtain ⟨W, hW⟩ : ∃ W, (w.alloc (.cells #[slv (S 0), slv (S 1), slv (S 2), slv (S 3), slv (S 4), slv (S 5), slv (S 6)] 24)).alloc (.cells #[.int .i64 y, .int .i64 m, .int .i64 d, .int .i64 h, .int .i64 mi, .int .i64 s] 28) = W := ⟨_, rfl⟩
  have hB : Hid (Below w.heap.size w W) := by show Below _ _ _; rw [← hW]; exact ((Below.refl _ _).alloc (Nat.le_refl _) _).alloc (by simp) _
  have hk : ∀ j u, #[slv (S 0), slv (S 1), slv (S 2), slv (S 3), slv (S 4), slv (S 5), slv (S 6)][j]? = some u → W.cell? ⟨w.heap.size, j, none⟩ = some u := fun j u hj => by
    rw [← hW]; exact (((Below.refl _ _).alloc (Nat.le_refl _) _).cell (p := ⟨w.heap.size, j, none⟩) (by simp)).trans (cell_at rfl hj)
  have hd : ∀ j u, #[Value.int .i64 y, .int .i64 m, .int .i64 d, .int .i64 h, .int .i64 mi, .int .i64 s][j]? = some u → W.cell? ⟨w.heap.size + 1, j, none⟩ = some u := fun j u hj => by rw [← hW]; exact cell_at (by simp) hj
  have hM : Hid (MC6 w.heap.size S c y m d h mi s W) := ⟨hk 0 _ rfl, hk 1 _ rfl, hk 2 _ rfl, hk 3 _ rfl, hk 4 _ rfl, hk 5 _ rfl, hk 6 _ rfl, hd 0 _ rfl, hd 1 _ rfl, hd 2 _ rfl, hd 3 _ rfl, hd 4 _ rfl, hd 5 _ rfl, hp.below hB.out⟩
  clear hk hd hp
  obtain ⟨c0, c1, c2, c3, c4, c5, c6, _, _, _, _, _, _, hp0⟩ := id hM.out
  have hI := hidI2 (rIsC_any S c W hp0)
  clear hp0
  go_enter Tryz.func9, Tryz.ntmps9
  go_wp2_with (rw [hW])
  refine hI.out.mono ?_
  rintro e w1 ⟨rfl, hb1⟩
  have hM1 := hidI2 (hM.out.next hb1)
  have hz1 := hidI2 (hB.out.trans (hb1.mono hB.out.size))
  clear hI hb1 c0 c1 c2 c3 c4 c5 c6 hM hW hB
  cases hIs : isB c with
  | false =>
    have hIH := hidI2 hIs
    clear hIs
    go_wp2_with fail
    go_ret
    exact ⟨ret_bool (by rw [hIH.out]; rfl), hz1.out⟩
  | true =>
    have hok := isB_ok hIs
    have hIH := hidI2 hIs
    obtain ⟨_, _, _, _, _, _, _, e0, e1, e2, e3, e4, e5, _⟩ := id hM1.out
    have hMo := rMom_any y m d h mi s w1
    clear hIs
    cases hvt : (Civ.vldB y m d && Civ.timB h mi s) with
    | false =>
      rw [hvt] at hMo
      have hMoH := hidI2 hMo
      have hvtH := hidI2 hvt
      simp only [momV] at hMoH
      clear hMo hvt
      go_wp2_with fail
      refine hMoH.out.mono ?_
      rintro e w2 ⟨rfl, hb2⟩
      have hz2 := hidI2 (hz1.out.trans (hb2.mono hz1.out.size))
      clear hb2 hMoH
      go_wp2_with fail
      go_ret
      exact ⟨ret_bool (by rw [hIH.out, hvtH.out]; rfl), hz2.out⟩
    | true =>
      rw [hvt] at hMo
      have hMoH := hidI2 hMo
      have hvtH := hidI2 hvt
      simp only [momV] at hMoH
      simp only [Bool.and_eq_true] at hvt
      obtain ⟨hv, ht⟩ := hvt
      obtain ⟨vy0, vy1, vm0, vm1, vd0, vd1⟩ := Civ.vldB_iff.1 hv
      obtain ⟨t1, t2, t3, t4, t5, t6⟩ := Civ.timB_iff.1 ht
      have hdb := Civ.dim_bd y m
      have hvH := hidI2 hv
      clear hMo hv ht
      go_wp2_with fail
      refine hMoH.out.mono ?_
      rintro e w2 ⟨rfl, hb2⟩
      have hM2 := hidI2 (hM1.out.next hb2)
      have hz2 := hidI2 (hz1.out.trans (hb2.mono hz1.out.size))
      clear hb2 hMoH e0 e1 e2 e3 e4 e5
      obtain ⟨_, _, _, _, _, _, _, e0, e1, e2, e3, e4, e5, _⟩ := id hM2.out
      have hDa := hidI2 (rDays_yes y m d w2 hvH.out)
      go_wp2_with fail
      refine hDa.out.mono ?_
      rintro e w3 ⟨rfl, hb3⟩
      have hM3 := hidI2 (hM2.out.next hb3)
      have hz3 := hidI2 (hz2.out.trans (hb3.mono hz2.out.size))
      clear hb3 hDa e0 e1 e2 e3 e4 e5
      obtain ⟨c0, c1, c2, c3, c4, c5, c6, e0, e1, e2, e3, e4, e5, hp3⟩ := id hM3.out
      have hdt := rdate_any S c y m d (Civ.num y m d) w3 hp3 hok (by omega) (by omega) (by omega) (by omega) (by omega) (by omega)
      have hmt : Hid (mtM c y m d h mi s = (dtB c y m d (Civ.num y m d) && (Cal.inL c.hour h && (Cal.inL c.minute mi && Cal.inL c.second s)))) := mtM_dt c y m d h mi s
      obtain ⟨nn, hnn⟩ : ∃ nn, Civ.num y m d = nn := ⟨_, rfl⟩
      rw [hnn] at hdt hmt ⊢
      obtain ⟨B1, hB1⟩ : ∃ B1, dtB c y m d nn = B1 := ⟨_, rfl⟩
      rw [hB1] at hdt hmt
      have hdtH := hidI2 hdt
      clear hdt hp3 hnn hB1
      cases B1 with
      | false =>
        go_wp2_with fail
        refine hdtH.out.mono ?_
        rintro e w4 ⟨rfl, hb4⟩
        have hz4 := hidI2 (hz3.out.trans (hb4.mono hz3.out.size))
        clear hb4 hdtH
        go_wp2_with fail
        go_ret
        exact ⟨ret_bool (by rw [hIH.out, hvtH.out, hmt.out]; rfl), hz4.out⟩
      | true =>
        go_wp2_with fail
        refine hdtH.out.mono ?_
        rintro e w4 ⟨rfl, hb4⟩
        have hM4 := hidI2 (hM3.out.next hb4)
        have hz4 := hidI2 (hz3.out.trans (hb4.mono hz3.out.size))
        clear hb4 hdtH c0 c1 c2 c3 c4 c5 c6 e0 e1 e2 e3 e4 e5
        obtain ⟨_, _, _, _, c4, c5, c6, _, _, _, e3, e4, e5, hp4⟩ := id hM4.out
        have hH := rIn_any c.hour h _ w4 hp4.p4 hok.o4 (by omega) (by omega)
        obtain ⟨B2, hB2⟩ : ∃ B2, Cal.inL c.hour h = B2 := ⟨_, rfl⟩
        rw [hB2] at hH hmt
        have hHH := hidI2 hH
        clear hH hp4 hB2
        cases B2 with
        | false =>
          go_wp2_with fail
          refine hHH.out.mono ?_
          rintro e w5 ⟨rfl, hb5⟩
          have hz5 := hidI2 (hz4.out.trans (hb5.mono hz4.out.size))
          clear hb5 hHH
          go_wp2_with fail
          go_ret
          exact ⟨ret_bool (by rw [hIH.out, hvtH.out, hmt.out]; rfl), hz5.out⟩
        | true =>
          go_wp2_with fail
          refine hHH.out.mono ?_
          rintro e w5 ⟨rfl, hb5⟩
          have hM5 := hidI2 (hM4.out.next hb5)
          have hz5 := hidI2 (hz4.out.trans (hb5.mono hz4.out.size))
          clear hb5 hHH c4 c5 c6 e3 e4 e5
          obtain ⟨_, _, _, _, c4, c5, c6, _, _, _, e3, e4, e5, hp5⟩ := id hM5.out
          have hH := rIn_any c.minute mi _ w5 hp5.p5 hok.o5 (by omega) (by omega)
          obtain ⟨B3, hB3⟩ : ∃ B3, Cal.inL c.minute mi = B3 := ⟨_, rfl⟩
          rw [hB3] at hH hmt
          have hHH := hidI2 hH
          clear hH hp5 hB3
          cases B3 with
          | false =>
            go_wp2_with fail
            refine hHH.out.mono ?_
            rintro e w6 ⟨rfl, hb6⟩
            have hz6 := hidI2 (hz5.out.trans (hb6.mono hz5.out.size))
            clear hb6 hHH
            go_wp2_with fail
            go_ret
            exact ⟨ret_bool (by rw [hIH.out, hvtH.out, hmt.out]; rfl), hz6.out⟩
          | true =>
            go_wp2_with fail
            refine hHH.out.mono ?_
            rintro e w6 ⟨rfl, hb6⟩
            have hM6 := hidI2 (hM5.out.next hb6)
            have hz6 := hidI2 (hz5.out.trans (hb6.mono hz5.out.size))
            clear hb6 hHH c4 c5 c6 e3 e4 e5
            obtain ⟨_, _, _, _, c4, c5, c6, _, _, _, e3, e4, e5, hp6⟩ := id hM6.out
            have hHH := hidI2 (rIn_any c.second s _ w6 hp6.p6 hok.o6 (by omega) (by omega))
            clear hp6
            go_wp2_with fail
            refine hHH.out.mono ?_
            rintro e w7 ⟨rfl, hb7⟩
            have hz7 := hidI2 (hz6.out.trans (hb7.mono hz6.out.size))
            clear hb7 hHH
            go_wp2_with fail
            go_ret
            exact ⟨ret_bool (by rw [hIH.out, hvtH.out, hmt.out]; simp), hz7.out⟩
end Go.Proofs.YtehlnhljpdjppaaGreatDoor
