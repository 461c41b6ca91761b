/- CalendarDaily. -/
import Derived.Test.YtfjbonhlokbhpaaDoorZJ
import Derived.Test.YtfjbonhlokbhpaaDoorZI
namespace Go.Proofs.YtfjbonhlokbhpaaDoor
open Go.RowKit
theorem fb_tab : ((List.range 24).all fun n => isFB (oneP n) 0 23) = true ∧ ((List.range 60).all fun n => isFB (oneP n) 0 59) = true := ⟨by kernel_rfl, by kernel_rfl⟩
theorem fb23 (n : Nat) (h : n < 24) : isFB (oneP n) 0 23 = true := List.all_eq_true.1 fb_tab.1 n (List.mem_range.2 h)
theorem fb59 (n : Nat) (h : n < 60) : isFB (oneP n) 0 59 = true := List.all_eq_true.1 fb_tab.2 n (List.mem_range.2 h)
theorem isB_xT (a b c : Nat) (ha : a < 24) (hb : b < 60) (hc : c < 60) : isB (xT a b c) = true := by
  unfold isB
  simp only [xT, fb23 a ha, fb59 b hb, fb59 c hc]
  decide +kernel
theorem mt_xT (a b c : Nat) (x : Int) (hb : b < 60) (hc : c < 60) : Cal.mt (xT a b c) x = true ↔ x % 86400 = a * 3600 + b * 60 + c := by
  have z : ∀ (n : Nat) (y : Int), Cal.inL (oneP n) y = true ↔ y = n := fun n y => by
    simp [Cal.inL, Cal.inP, oneP]; omega
  have e : Cal.mt (xT a b c) x = (Cal.inL (oneP a) (x % 86400 / 3600) && (Cal.inL (oneP b) (x % 86400 / 60 % 60) && Cal.inL (oneP c) (x % 60))) := rfl
  rw [e]
  simp only [Bool.and_eq_true, z]
  omega
def nT (A t : Int) : Int := if t % 86400 < A then t - t % 86400 + A else t - t % 86400 + A + 86400
theorem nT_facts (A t : Int) (h0 : 0 ≤ A) (h1 : A < 86400) (t0 : 0 ≤ t) (t1 : t ≤ 7000000000) : t < nT A t ∧ nT A t ≤ t + 86400 ∧ nT A t % 86400 = A ∧ 0 ≤ nT A t ∧ nT A t ≤ 7000086400 := by
  unfold nT; split <;> omega
theorem nx_xT (a b c : Nat) (t : Int) (ha : a < 24) (hb : b < 60) (hc : c < 60) (t0 : 0 ≤ t) (t1 : t ≤ 7000000000) : Cal.nx (xT a b c) t = some (nT (a * 3600 + b * 60 + c) t) := by
  obtain ⟨f1, f2, f3, f4, f5⟩ := nT_facts ((a : Int) * 3600 + b * 60 + c) t (by omega) (by omega) t0 t1
  rw [Cal.nx_some]
  refine ⟨⟨by omega, by omega, (mt_xT _ _ _ _ hb hc).2 f3⟩, fun x h2 h3 => ?_⟩
  cases hm : Cal.mt (xT a b c) x with
  | false => rfl
  | true =>
    have := (mt_xT _ _ _ _ hb hc).1 hm
    unfold nT at h3
    split at h3 <;> omega
theorem parse_sT (a b c : Nat) (ha : a < 24) (hb : b < 60) (hc : c < 60) (w : World) (hg : GlP w) : Calls Tryd.prog 15 #[.string ⟨(sT a b c).toArray⟩] w (ParP w (xT a b c)) := by
  have hs : (⟨(sT a b c).toArray⟩ : ByteArray).data.toList = UInt8.ofNat (48 + a / 10) :: (UInt8.ofNat (48 + a % 10) :: 58 :: (Civ.d2 b ++ 58 :: Civ.d2 c)) := by rw [mkl]; rfl
  have hsp := spell_id hs (by rw [UInt8.lt_iff_toNat_lt]; simp; omega)
  refine parse_any _ w hg (xT a b c) (by rw [hsp]; exact pF_sT a b c ha hb hc) (isB_xT a b c ha hb hc) (by rw [hsp]; show (sT a b c).toArray.size ≤ 100000; simp [sT, Civ.d2])
set_option maxRecDepth 100000 in
set_option maxHeartbeats 2000000 in
theorem daily_at (n0 n1 n2 a b c : Nat) (t : Int) (w : World) (hg : GlP w) (h0 : n0 ≤ 255) (h1 : n1 ≤ 255) (h2 : n2 ≤ 255) (hka : n0 % 24 = a) (hkb : n1 % 60 = b) (hkc : n2 % 60 = c) (ht0 : -9223372036854775808 ≤ t) (ht1 : t ≤ 9223372036854775807) :
    Calls Tryd.prog 5 #[.int .u8 n0, .int .u8 n1, .int .u8 n2, .int .i64 t] w fun e w' => e = .returned (.bool true) ∧ Below w.heap.size w w' := by
  have hkn := known_any w hg
  have ha24 : a < 24 := by omega
  have hb60 : b < 60 := by omega
  have hc60 : c < 60 := by omega
  have hia : (n0 : Int) % 24 = (a : Int) := by omega
  have hib : (n1 : Int) % 60 = (b : Int) := by omega
  have hic : (n2 : Int) % 60 = (c : Int) := by omega
  have hPa : ∀ w, Calls Tryd.prog 16 #[.int .i64 a, .int .i64 2] w fun e w' => e = .returned (.string ⟨(Civ.d2 a).toArray⟩) ∧ Below w.heap.size w w' := fun w => pad2_any a w (by omega)
  have hPb : ∀ w, Calls Tryd.prog 16 #[.int .i64 b, .int .i64 2] w fun e w' => e = .returned (.string ⟨(Civ.d2 b).toArray⟩) ∧ Below w.heap.size w w' := fun w => pad2_any b w (by omega)
  have hPc : ∀ w, Calls Tryd.prog 16 #[.int .i64 c, .int .i64 2] w fun e w' => e = .returned (.string ⟨(Civ.d2 c).toArray⟩) ∧ Below w.heap.size w w' := fun w => pad2_any c w (by omega)
  have hP : Hid (∀ w, GlP w → Calls Tryd.prog 15 #[.string (⟨(Civ.d2 a).toArray⟩ ++ ⟨#[58]⟩ ++ ⟨(Civ.d2 b).toArray⟩ ++ ⟨#[58]⟩ ++ ⟨(Civ.d2 c).toArray⟩)] w (ParP w (xT a b c))) := fun w hg => by
    have e : (⟨(Civ.d2 a).toArray⟩ ++ ⟨#[58]⟩ ++ ⟨(Civ.d2 b).toArray⟩ ++ ⟨#[58]⟩ ++ ⟨(Civ.d2 c).toArray⟩ : ByteArray) = ⟨(sT a b c).toArray⟩ := by
      rw [← Lib.mk_data (_ ++ _ ++ _ ++ _ ++ _)]
      simp [sT]
    rw [e]
    exact parse_sT a b c ha24 hb60 hc60 w hg
  have hA : (⟨(Civ.d2 a).toArray⟩ : ByteArray).size = 2 := rfl
  have hB : (⟨(Civ.d2 b).toArray⟩ : ByteArray).size = 2 := rfl
  have hC : (⟨(Civ.d2 c).toArray⟩ : ByteArray).size = 2 := rfl
  generalize (⟨(Civ.d2 a).toArray⟩ : ByteArray) = A at *
  generalize (⟨(Civ.d2 b).toArray⟩ : ByteArray) = B at *
  generalize (⟨(Civ.d2 c).toArray⟩ : ByteArray) = C at *
  have hPaH := hidI2 hPa
  have hPbH := hidI2 hPb
  have hPcH := hidI2 hPc
  clear hPa hPb hPc
  go_enter Tryd.func5, Tryd.ntmps5
  go_wp2_with fail
  refine hkn.mono ?_
  rintro e w1 ⟨rfl, hb1⟩
  clear hkn
  have hg1 := hg.below hb1
  go_wp2_with fail
  refine (hPaH.out _).mono ?_
  rintro e w2 ⟨rfl, hb2⟩
  go_wp2_with fail
  refine (hPbH.out _).mono ?_
  rintro e w3 ⟨rfl, hb3⟩
  go_wp2_with fail
  refine (hPcH.out _).mono ?_
  rintro e w4 ⟨rfl, hb4⟩
  have hb14 : Below w1.heap.size w1 w4 := (hb2.trans (hb3.mono hb2.size)).trans (hb4.mono (Nat.le_trans hb2.size hb3.size))
  have hPp := hP.out w4 (hg1.below hb14)
  clear hb2 hb3 hb4 hP hPaH hPbH hPcH
  go_wp2_with fail
  refine hPp.mono ?_
  rintro e w5 ⟨S, rfl, hb5, hp⟩
  clear hPp
  have hb15 : Below w1.heap.size w1 w5 := hb14.trans (hb5.mono hb14.size)
  have hBb : Below w5.heap.size w5 (w5.alloc (.cells #[slv (S 0), slv (S 1), slv (S 2), slv (S 3), slv (S 4), slv (S 5), slv (S 6)] 24)) := (Below.refl _ _).alloc (Nat.le_refl _) _
  have hg2 := (hg1.below hb15).below hBb
  have hbB : Below w.heap.size w (w5.alloc (.cells #[slv (S 0), slv (S 1), slv (S 2), slv (S 3), slv (S 4), slv (S 5), slv (S 6)] 24)) := (hb1.trans (hb15.mono hb1.size)).trans (hBb.mono (Nat.le_trans hb1.size hb15.size))
  have hN := next_any S (xT a b c) t (w5.alloc (.cells #[slv (S 0), slv (S 1), slv (S 2), slv (S 3), slv (S 4), slv (S 5), slv (S 6)] 24)) (hp.below hBb) hg2.gl ht1
  have hNH := hidI2 hN
  have hbBH := hidI2 hbB
  clear hN hbB hp hBb hg2 hb14 hb15 hb5 hA hB hC
  by_cases ha : t < 0
  · go_wp2_with fail
    go_ret
    exact ⟨rfl, hbBH.out⟩
  · have hab : decide (t < 0) = false := by simp; omega
    by_cases hb : 7000000000 < t
    · go_wp2_with fail
      go_ret
      exact ⟨rfl, hbBH.out⟩
    · have hbb : decide (7000000000 < t) = false := by simp; omega
      obtain ⟨f1, f2, f3, f4, f5⟩ := nT_facts ((a : Int) * 3600 + b * 60 + c) t (by omega) (by omega) (by omega) (by omega)
      have hX := nx_xT a b c t ha24 hb60 hc60 (by omega) (by omega)
      have hN := hNH.out
      rw [isB_xT a b c ha24 hb60 hc60, hX] at hN
      simp only [if_true, Option.getD_some, Option.isSome_some, Bool.and_true] at hN
      obtain ⟨N, hNe⟩ : ∃ N, nT ((a : Int) * 3600 + b * 60 + c) t = N := ⟨_, rfl⟩
      rw [hNe] at hN f1 f2 f3 f4 f5
      have g1 : N.tmod 86400 = (a : Int) * 3600 + b * 60 + c := by rw [Int.tmod_eq_emod_of_nonneg f4]; exact f3
      have g4 : IntKind.i64.wrap (t + 86400) = t + 86400 := by rw [IntKind.wrap_i64]; omega
      have g5 : IntKind.i64.wrap ((a : Int) * 3600) = (a : Int) * 3600 := by rw [IntKind.wrap_i64]; omega
      have g6 : IntKind.i64.wrap ((b : Int) * 60) = (b : Int) * 60 := by rw [IntKind.wrap_i64]; omega
      have g7 : IntKind.i64.wrap ((a : Int) * 3600 + (b : Int) * 60) = (a : Int) * 3600 + (b : Int) * 60 := by rw [IntKind.wrap_i64]; omega
      have g8 : IntKind.i64.wrap ((a : Int) * 3600 + (b : Int) * 60 + c) = (a : Int) * 3600 + (b : Int) * 60 + c := by rw [IntKind.wrap_i64]; omega
      clear hNe hX f3 hNH hia hib hic
      go_wp2_with fail
      refine hN.mono ?_
      rintro e w6 ⟨rfl, hb6⟩
      have hz := hbBH.out.trans (hb6.mono hbBH.out.size)
      clear hN hb6 hbBH
      go_wp2_with fail
      go_ret
      exact ⟨rfl, hz⟩
theorem daily_walk (n0 n1 n2 : Nat) (t : Int) (w : World) (hg : GlP w) (h0 : n0 ≤ 255) (h1 : n1 ≤ 255) (h2 : n2 ≤ 255) (ht0 : -9223372036854775808 ≤ t) (ht1 : t ≤ 9223372036854775807) :
    Calls Tryd.prog 5 #[.int .u8 n0, .int .u8 n1, .int .u8 n2, .int .i64 t] w fun e w' => e = .returned (.bool true) ∧ Below w.heap.size w w' :=
  daily_at n0 n1 n2 _ _ _ t w hg h0 h1 h2 rfl rfl rfl ht0 ht1
end Go.Proofs.YtfjbonhlokbhpaaDoor
