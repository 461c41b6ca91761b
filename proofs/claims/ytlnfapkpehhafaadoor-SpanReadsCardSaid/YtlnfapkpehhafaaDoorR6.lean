/- The contract of the reference's Parse. -/
import Derived.Test.YtlnfapkpehhafaaDoorR5
import Derived.Test.YtlnfapkpehhafaaDoorR1
namespace Go.Proofs.YtlnfapkpehhafaaDoor
open Go.RowKit
theorem digit_yes (c : Int) (w : World) (h1 : 48 ≤ c) (h2 : c ≤ 57) : Calls Tryd.prog 26 #[.int .u8 c] w fun e w' => e = .returned (.bool true) ∧ w' = w := by
  have h := digit_any c w
  rwa [show (decide (48 ≤ c) && decide (c ≤ 57)) = true by simp [h1, h2]] at h
theorem digit_no (c : Int) (w : World) (hn : ¬ (48 ≤ c ∧ c ≤ 57)) : Calls Tryd.prog 26 #[.int .u8 c] w fun e w' => e = .returned (.bool false) ∧ w' = w := by
  have h := digit_any c w
  rwa [show (decide (48 ≤ c) && decide (c ≤ 57)) = false by
    rw [Bool.and_eq_false_iff, decide_eq_false_iff_not, decide_eq_false_iff_not]; omega] at h
theorem num_none {q : List UInt8} (f : Nat) (t : Int) (hq : q ≠ []) (h : Sp.numB q = false) : Sp.parseGo f t q = none :=
  Sp.parseGo_no f t q hq (by unfold Sp.partB; rw [h]; rfl)
theorem numB_big {q : List UInt8} (h : 18 < (Sp.dg q).length) : Sp.numB q = false := (num_no h).2.2
theorem numB_zero {q : List UInt8} (h : (Sp.dg q).length = 0) : Sp.numB q = false := by unfold Sp.numB; simp [h]
theorem get_drop (r : ByteArray) (k j : Nat) (h : k + j < r.size) : (r.data.toList.drop k)[j]'(by rw [List.length_drop, size_list]; omega) = r[k + j] := by
  rw [List.getElem_drop]; rfl
theorem fin_none {l : List UInt8} (h : Sp.parse l = none) : Ending.returned (.tuple #[.int .i64 0, .int .i64 10]) = .returned (.tuple #[.int .i64 (Sp.parseV l), .int .i64 (Sp.parseE l)]) := by
  unfold Sp.parseV Sp.parseE; rw [h]; rfl
theorem fin_some {l : List UInt8} {t : Int} (h : Sp.parse l = some t) : Ending.returned (.tuple #[.int .i64 t, .int .i64 0]) = .returned (.tuple #[.int .i64 (Sp.parseV l), .int .i64 (Sp.parseE l)]) := by
  unfold Sp.parseV Sp.parseE; rw [h]; rfl
theorem blanks_i (r : ByteArray) (k j : Nat) (w : World) (hr : r.size ≤ 2000) (h : k + j ≤ r.size) :
    Calls Tryd.prog 27 #[.string r, .int .i64 ((k : Int) + (j : Int))] w fun e w' => e = .returned (.int .i64 (bAt r.data.toList (k + j))) ∧ w' = w := by
  have h := blanks_b r (k + j) w (by unfold maxLen; omega) h
  rwa [Int.natCast_add] at h
theorem bAt_le (r : ByteArray) (k : Nat) (h : k ≤ r.size) : k ≤ bAt r.data.toList k ∧ bAt r.data.toList k ≤ r.size := by
  have := Sp.bl_le (r.data.toList.drop k)
  rw [List.length_drop, size_list] at this
  unfold bAt; omega
theorem bAt_drop (l : List UInt8) (k : Nat) : l.drop (bAt l k) = Sp.blk (l.drop k) := by
  rw [Sp.blk_drop (l.drop k), List.drop_drop]; unfold bAt; rfl
/-- What the reference's unit answers of a text: its seconds, its bytes. -/
structure UnitIs (A : List UInt8) (V : Int) (N : Nat) : Prop where
  v : Sp.unitV Sp.readT A = V
  lo : 1 ≤ V
  hi : V ≤ 604800
  z : N = 0 ↔ Sp.unitB Sp.readT A = false
  len : N ≤ A.length
  r : Sp.unitR Sp.readT A = A.drop N
theorem unit_q (r : ByteArray) (a : Nat) (w : World) (hr : r.size ≤ 2000) :
    Calls Tryd.prog 28 #[.string (r.extract a r.size)] w fun e w' => (∃ (V : Int) (N : Nat), e = .returned (.tuple #[.int .i64 V, .int .i64 N]) ∧ UnitIs (r.data.toList.drop a) V N) ∧ Below w.heap.size w w' := by
  have hx := Lib.extract_to_end r a
  have hz : (r.extract a r.size).size ≤ maxLen := by rw [← size_list, hx, List.length_drop, size_list]; unfold maxLen; omega
  refine (unit_b (r.extract a r.size) w hz).mono fun e w' ⟨he, hb⟩ => ⟨⟨_, _, he, ?_⟩, hb⟩
  rw [hx]
  obtain ⟨e1, e2, e3⟩ := Sp.ref_unit (r.data.toList.drop a)
  have hz := Sp.unitN_zero Sp.refT (by decide) (r.data.toList.drop a)
  have hb := unit_bd (r.data.toList.drop a)
  refine ⟨e1.symm, by rw [e1]; exact hb.1, by rw [e1]; exact hb.2, by rw [← e3]; exact hz.1, hz.2, ?_⟩
  rw [← e2]; exact Sp.unitN_drop Sp.refT _
/-- The product, as the two halves tell it. -/
structure MulIs (n k hi lo : Int) : Prop where
  small : n * k < 9223372036854775807 → hi = 0 ∧ lo = n * k
  big : ¬ n * k < 9223372036854775807 → hi ≠ 0 ∨ ¬ lo < 9223372036854775807
theorem mul_any (n k : Int) (w : World) (hn : 0 ≤ n) (hn' : n < 1000000000000000000) (hk : 1 ≤ k) (hk' : k ≤ 604800) :
    Calls Tryd.prog 29 #[.int .u64 n, .int .u64 k] w fun e w' => (∃ hi lo : Int, e = .returned (.tuple #[.int .u64 hi, .int .u64 lo]) ∧ 0 ≤ lo ∧ lo < 18446744073709551616 ∧ 0 ≤ hi ∧ hi < 18446744073709551616 ∧ MulIs n k hi lo) ∧ w' = w := by
  obtain ⟨x, rfl⟩ := Int.eq_ofNat_of_zero_le hn
  obtain ⟨y, rfl⟩ := Int.eq_ofNat_of_zero_le (show 0 ≤ k by omega)
  refine (Tryd.bits_Mul64 x y (by omega) (by omega) w).mono fun e w' ⟨he, hw⟩ => ⟨⟨_, _, he, by omega, by omega, by omega, ?_, ?_⟩, hw⟩
  · have h1 : x * y ≤ 1000000000000000000 * 604800 := Nat.mul_le_mul (by omega) (by omega)
    have h2 : x * y / 18446744073709551616 ≤ 1000000000000000000 * 604800 / 18446744073709551616 := Nat.div_le_div_right h1
    have h3 : (1000000000000000000 * 604800 / 18446744073709551616 : Nat) < 18446744073709551616 := by decide
    omega
  · have e : ((x : Int) * (y : Int)) = ((x * y : Nat) : Int) := by simp
    constructor
    · intro h; rw [e] at h ⊢; omega
    · intro h; rw [e] at h; omega
theorem val_times (n k : Int) (hk : 1 ≤ k) (h : n * k < 9223372036854775807) : Sp.timesS n k = n * k := by
  rw [← Sp.times_ref n k hk]; unfold Sp.top; rw [if_pos h]
theorem val_times_top (n k : Int) (hk : 1 ≤ k) (h : ¬ n * k < 9223372036854775807) : Sp.timesS n k = 9223372036854775807 := by
  rw [← Sp.times_ref n k hk]; unfold Sp.top; rw [if_neg h]
theorem part_facts (q : List UInt8) (j : Nat) (hj : j = (Sp.dg q).length) (hj0 : 0 < j) (h18 : j ≤ 18) (A : List UInt8) (hA : A = Sp.blk (q.drop j)) (V : Int) (N : Nat) (hU : UnitIs A V N) :
    (N = 0 → A ≠ [] → Sp.partB q = false) ∧ ((N = 0 → A = []) → Sp.partB q = true ∧ Sp.partV q = Sp.timesS (Sp.valS (q.take j)) V ∧ Sp.partR q = Sp.blk (A.drop N)) := by
  have h18' : (Sp.dg q).length ≤ 18 := by omega
  have hB : Sp.numB q = true := by rw [numB_ok h18']; simp; omega
  have ha : Sp.aftR q = A := by unfold Sp.aftR; rw [numR_ok h18', ← hj, hA]
  have hR : Sp.partR q = Sp.blk (A.drop N) := by unfold Sp.partR; rw [ha, hU.r]
  refine ⟨fun h0 hne => ?_, fun h0 => ⟨?_, ?_, hR⟩⟩
  · have hAA : Sp.blk (A.drop N) = A := by rw [h0, List.drop_zero, hA, Sp.blk_blk]
    unfold Sp.partB
    rw [hB, ha, hR, hAA, hU.z.1 h0]
    cases A with
    | nil => exact absurd rfl hne
    | cons c t => rfl
  · unfold Sp.partB
    rw [hB, ha, hR]
    by_cases hN : N = 0
    · rw [h0 hN, List.drop_nil]; simp [Sp.blk, Lib.trimLeftB]
    · have : Sp.unitB Sp.readT A = true := by
        cases h : Sp.unitB Sp.readT A with
        | true => rfl
        | false => exact absurd (hU.z.2 h) hN
      rw [this]; rfl
  · unfold Sp.partV; rw [ha, hU.v, numV_ok h18', ← hj]
set_option maxRecDepth 100000 in
set_option maxHeartbeats 4000000 in
theorem rParse_b (s : ByteArray) (w : World) (hs : s.size ≤ 2000) :
    Calls Tryd.prog 17 #[.string s] w fun e w' => e = .returned (.tuple #[.int .i64 (Sp.parseV s.data.toList), .int .i64 (Sp.parseE s.data.toList)]) ∧ Below w.heap.size w w' := by
  by_cases hinf : s.data.toList = Sp.infL
  · obtain rfl : s = ⟨Sp.infL.toArray⟩ := by rw [← hinf, Lib.mk_data]
    have hp : Hid (Sp.parseV Sp.infL = 9223372036854775807 ∧ Sp.parseE Sp.infL = 0) := by constructor <;> decide +kernel
    unfold Sp.infL at hp ⊢
    go_enter Tryd.func17, Tryd.ntmps17
    go_wp2_with fail
    go_ret2
    rw [hp.out.1, hp.out.2]
    exact ⟨rfl, Below.refl _ _⟩
  · have hmax : s.size ≤ maxLen := by unfold maxLen; omega
    have hinf2 : (s.toList == [105, 110, 102, 105, 110, 105, 116, 121]) = false := by
      rw [Lib.toList_data]; simpa [Sp.infL] using hinf
    go_enter Tryd.func17, Tryd.ntmps17
    go_wp2_with fail
    refine (trimmed_b s _ hmax).mono ?_
    rintro e w1 ⟨⟨R, hR, rfl, n, he⟩, rfl⟩
    have hpar : Hid (Sp.parse s.data.toList = if R.isEmpty then none else Sp.parseGo s.data.toList.length 0 R) := Sp.parse_trim _ R n hinf he
    clear hinf hinf2
    by_cases hRe : R = []
    · subst hRe
      go_wp2_with fail
      go_ret2
      refine ⟨?_, Below.refl _ _⟩
      unfold Sp.parseV Sp.parseE
      rw [hpar.out]
      rfl
    · have hE : R.isEmpty = false := by cases R <;> simp_all
      have hpar2 : Hid (Sp.parse s.data.toList = Sp.parseGo s.data.toList.length 0 R) := by
        show _ = _
        rw [hpar.out, hE]; rfl
      clear hpar hRe he
      go_wp2_with fail
      have hrs : (⟨R.toArray⟩ : ByteArray).size ≤ 2000 := by
        rw [← size_list]; show R.length ≤ 2000; omega
      have hpar3 : Hid (Sp.parse s.data.toList = Sp.parseGo s.data.toList.length 0 (⟨R.toArray⟩ : ByteArray).data.toList) := hpar2
      have hRl : Hid ((⟨R.toArray⟩ : ByteArray).data.toList.length ≤ s.data.toList.length) := by
        show R.length ≤ _
        rw [size_list]; exact hR
      clear hpar2 hE
      generalize (⟨R.toArray⟩ : ByteArray) = r at hrs hpar3 hRl ⊢
      clear hR
      go_loopw [4, 5] (fun sum at_ wr => ∃ (f k : Nat) (t : Int), at_ = .int .i64 k ∧ k ≤ r.size ∧ sum = .int .i64 t ∧ -9223372036854775808 ≤ t ∧ t ≤ 9223372036854775807 ∧ Below w1.heap.size w1 wr ∧ Hid ((r.data.toList.drop k).length ≤ f ∧ Sp.parse s.data.toList = Sp.parseGo f t (r.data.toList.drop k))) (fun _ at_ _ => r.size - (intOf at_).toNat)
      case atStart => exact ⟨_, 0, 0, rfl, Nat.zero_le _, rfl, by omega, by omega, Below.refl _ _, hRl.out, hpar3.out⟩
      case round =>
        obtain ⟨f, k, t, rfl, hk, rfl, ht0, ht1, hb, hh⟩ := hrel
        clear hpar3 hRl
        by_cases hlt : k < r.size
        · have hqne : Hid (r.data.toList.drop k ≠ []) := by
            show _ ≠ _
            intro e
            have := congrArg List.length e
            rw [List.length_drop, size_list] at this
            simp at this
            omega
          have hql : Hid ((r.data.toList.drop k).length = r.size - k) := by show _ = _; rw [List.length_drop, size_list]
          have hdl := Sp.dg_le (r.data.toList.drop k)
          rw [hql.out] at hdl
          go_wp2_with fail
          go_loopw [5, 6, 7] (fun at_ nn kk wx => ∃ j : Nat, j ≤ (Sp.dg (r.data.toList.drop k)).length ∧ j ≤ 18 ∧ at_ = .int .i64 ((k : Int) + (j : Int)) ∧ nn = .int .u64 (Sp.valS ((r.data.toList.drop k).take j)) ∧ kk = .int .i64 j ∧ wx = wr) (fun at_ _ _ _ => r.size - (intOf at_).toNat)
          case atStart => exact ⟨0, Nat.zero_le _, Nat.zero_le _, by simp, rfl, rfl, rfl⟩
          case round =>
            obtain ⟨j, hj, h18, rfl, rfl, rfl, rfl⟩ := hrel
            obtain ⟨hv0, hv1⟩ := Sp.valS_take_bd (r.data.toList.drop k) j hj h18
            by_cases hjd : j < (Sp.dg (r.data.toList.drop k)).length
            · have hkj : k + j < r.size := by omega
              have hg := Sp.dg_get (r.data.toList.drop k) j hjd (by rw [hql.out]; omega)
              rw [get_drop r k j hkj] at hg
              obtain ⟨hc1, hc2⟩ := hg
              have hkj' : (k : Int) + (j : Int) < (r.size : Int) := by omega
              by_cases hj18 : j = 18
              · subst hj18
                have hno : Hid (Sp.parse s.data.toList = none) := hh.out.2.trans (num_none _ _ hqne.out (numB_big hjd))
                clear hh
                go_wp2_with fail
                refine (digit_yes _ _ hc1 hc2).mono ?_
                rintro e w4 ⟨rfl, rfl⟩
                go_wp2_with fail
                go_ret2
                exact ⟨fin_none hno.out, hb⟩
              · have hb18 : ((j : Int) == 18) = false := by simp; omega
                have hj17 : j < 18 := by omega
                have hst : Hid (Sp.valS ((r.data.toList.drop k).take (j + 1)) = Sp.valS ((r.data.toList.drop k).take j) * 10 + ((r[k + j].toNat : Int) - 48)) := by
                  have := Sp.valS_take (r.data.toList.drop k) j (by rw [hql.out]; omega)
                  rw [get_drop r k j hkj] at this
                  exact this
                have hv2 : Sp.valS ((r.data.toList.drop k).take j) < 100000000000000000 := Sp.valS_take_bd17 _ j hj (by omega)
                clear hj18
                go_wp2_with fail
                refine (digit_yes _ _ hc1 hc2).mono ?_
                rintro e w4 ⟨rfl, rfl⟩
                go_wp2_with fail
                exact ⟨⟨j + 1, by omega, by omega, by go_num, by rw [hst.out, Int.mul_comm], by go_num, trivial⟩, by simp [intOf]; omega⟩
            · have hje : j = (Sp.dg (r.data.toList.drop k)).length := by omega
              have HJ : Hid (j = (Sp.dg (r.data.toList.drop k)).length) := hje
              have hkj : k + j ≤ r.size := by omega
              clear hje hjd hj hdl
              by_cases hkl : k + j < r.size
              · have hst : ¬ (48 ≤ (r[k + j].toNat : Int) ∧ (r[k + j].toNat : Int) ≤ 57) := by
                  have := Sp.dg_stop (r.data.toList.drop k) (by rw [← HJ.out, hql.out]; omega)
                  simp only [← HJ.out] at this
                  rw [get_drop r k j hkl] at this
                  exact this
                have hkj' : (k : Int) + (j : Int) < (r.size : Int) := by omega
                go_wp2_with fail
                refine (digit_no _ _ hst).mono ?_
                rintro e w4 ⟨rfl, rfl⟩
                by_cases hj0 : j = 0
                · subst hj0
                  have hno : Hid (Sp.parse s.data.toList = none) := hh.out.2.trans (num_none _ _ hqne.out (numB_zero HJ.out.symm))
                  clear hh
                  go_wp2_with fail
                  go_ret2
                  exact ⟨fin_none hno.out, hb⟩
                · have hj0' : ((j : Int) == 0) = false := by simp; omega
                  have hj0'' : 0 < j := by omega
                  clear hj0
                  go_wp2_with fail
                  have hA1 := bAt_le r (k + j) hkj
                  refine (blanks_i r k j _ hrs hkj).mono ?_
                  rintro e w5 ⟨rfl, rfl⟩
                  have hAd : Hid (r.data.toList.drop (bAt r.data.toList (k + j)) = Sp.blk ((r.data.toList.drop k).drop j)) := by
                    show _ = _
                    rw [bAt_drop, List.drop_drop]
                  generalize bAt r.data.toList (k + j) = a1 at hA1 hAd ⊢
                  obtain ⟨ha1, ha1'⟩ := hA1
                  go_wp2_with fail
                  refine (unit_q r a1 _ hrs).mono ?_
                  rintro e w6 ⟨⟨V, N, rfl, hU⟩, hb6⟩
                  have hV1 := hU.lo
                  have hV2 := hU.hi
                  have hNl : a1 + N ≤ r.size := by
                    have := hU.len
                    rw [List.length_drop, size_list] at this
                    omega
                  have hbb := hb.trans (hb6.mono hb.size)
                  have hbsz := hbb.size
                  have hF := part_facts (r.data.toList.drop k) j HJ.out hj0'' h18 _ hAd.out V N hU
                  have hF1 : Hid (N = 0 → r.data.toList.drop a1 ≠ [] → Sp.partB (r.data.toList.drop k) = false) := hF.1
                  have hF2 : Hid ((N = 0 → r.data.toList.drop a1 = []) → Sp.partB (r.data.toList.drop k) = true ∧ Sp.partV (r.data.toList.drop k) = Sp.timesS (Sp.valS ((r.data.toList.drop k).take j)) V ∧ Sp.partR (r.data.toList.drop k) = Sp.blk ((r.data.toList.drop a1).drop N)) := hF.2
                  clear hF hU hb hb6 hAd
                  by_cases hbad : N = 0 ∧ a1 < r.size
                  · obtain ⟨hN0, hlt2⟩ := hbad
                    have hno : Hid (Sp.parse s.data.toList = none) := hh.out.2.trans (Sp.parseGo_no _ _ _ hqne.out (hF1.out hN0 (by
                      intro e
                      have := congrArg List.length e
                      rw [List.length_drop, size_list] at this
                      simp at this
                      omega)))
                    have hNb : ((N : Int) == 0) = true := by simp; omega
                    clear hh hN0 hF1 hF2
                    go_wp2_with fail
                    go_ret2
                    exact ⟨fin_none hno.out, hbb⟩
                  · have hgo : Hid (N = 0 → r.data.toList.drop a1 = []) := fun h0 => List.drop_eq_nil_of_le (by rw [size_list]; omega)
                    obtain ⟨p1, p2, p3⟩ := hF2.out hgo.out
                    obtain ⟨g, hg1, hg2⟩ := Sp.parseGo_yes f t _ hqne.out hh.out.1 p1
                    have hgo2 := hh.out.2.trans hg2
                    rw [p2, p3] at hgo2
                    rw [p3] at hg1
                    have HG : Hid (Sp.parse s.data.toList = Sp.parseGo g (Sp.addS t (Sp.timesS (Sp.valS ((r.data.toList.drop k).take j)) V)) (Sp.blk ((r.data.toList.drop a1).drop N))) := hgo2
                    have HL : Hid ((Sp.blk ((r.data.toList.drop a1).drop N)).length ≤ g) := hg1
                    clear p1 p2 p3 hg1 hg2 hgo2 hgo hF1 hF2 hh
                    rw [List.drop_drop] at HG HL
                    have hv0' := hv0
                    have hv1' := hv1
                    have hA2 := bAt_le r (a1 + N) hNl
                    have hAd2 : Hid (r.data.toList.drop (bAt r.data.toList (a1 + N)) = Sp.blk (r.data.toList.drop (a1 + N))) := bAt_drop _ _
                    have hBL := blanks_i r a1 N w6 hrs hNl
                    have HBL : Hid (Calls Tryd.prog 27 #[.string r, .int .i64 ((a1 : Int) + (N : Int))] w6 fun e w' => e = .returned (.int .i64 (bAt r.data.toList (a1 + N))) ∧ w' = w6) := hBL
                    clear hBL
                    generalize bAt r.data.toList (a1 + N) = a2 at hA2 hAd2 HBL
                    obtain ⟨ha2, ha2'⟩ := hA2
                    rw [← hAd2.out] at HG HL
                    generalize Sp.valS ((r.data.toList.drop k).take j) = v at hv0 hv1 hv0' hv1' HG ⊢
                    clear hAd2
                    have hcases : ((N : Int) == 0) = true ∧ ¬ (a1 : Int) < (r.size : Int) ∨ ((N : Int) == 0) = false := by
                      by_cases h0 : N = 0
                      · exact .inl ⟨by simp; omega, by omega⟩
                      · exact .inr (by simp; omega)
                    clear hbad
                    rcases hcases with ⟨hNb, hge⟩ | hNb
                    · go_wp2_with fail
                      refine HBL.out.mono ?_
                      rintro e w7 ⟨rfl, rfl⟩
                      go_wp2_with fail
                      refine (mul_any v V _ hv0 hv1 hV1 hV2).mono ?_
                      rintro e w8 ⟨⟨hi, lo, rfl, hlo0, hlo1, hhi0, hhi1, hM⟩, rfl⟩
                      by_cases hsm : v * V < 9223372036854775807
                      · obtain ⟨hz, hlo⟩ := hM.small hsm
                        have hlo2 : lo < 9223372036854775807 := by omega
                        have hz2 : (hi == 0) = true := by simpa using hz
                        have HT : Hid (Sp.timesS v V = lo) := (val_times v V hV1 hsm).trans hlo.symm
                        clear hlo hz hM hsm
                        go_wp2_with fail
                        refine (rAdd_any t lo _ ht0 ht1 (by omega) (by omega)).mono ?_
                        rintro e w9 ⟨rfl, rfl⟩
                        go_wp2_with fail
                        have hbd := Sp.addS_bd t lo
                        exact ⟨⟨g, a2, Sp.addS t lo, rfl, ha2', rfl, hbd.1, hbd.2, hbb, HL.out, by rw [← HT.out]; exact HG.out⟩, by simp [intOf]; omega⟩
                      · have hbig := hM.big hsm
                        have HT : Hid (Sp.timesS v V = 9223372036854775807) := val_times_top v V hV1 hsm
                        have hcs : (hi == 0) = false ∨ (hi == 0) = true ∧ ¬ lo < 9223372036854775807 := by
                          by_cases hz : hi = 0
                          · refine .inr ⟨by simpa using hz, ?_⟩
                            rcases hbig with h | h
                            · exact absurd hz h
                            · exact h
                          · exact .inl (by simpa using hz)
                        clear hbig hM hsm
                        rcases hcs with hz2 | ⟨hz2, hlo2⟩
                        · go_wp2_with fail
                          refine (rAdd_any t 9223372036854775807 _ ht0 ht1 (by omega) (by omega)).mono ?_
                          rintro e w9 ⟨rfl, rfl⟩
                          go_wp2_with fail
                          have hbd := Sp.addS_bd t 9223372036854775807
                          exact ⟨⟨g, a2, Sp.addS t 9223372036854775807, rfl, ha2', rfl, hbd.1, hbd.2, hbb, HL.out, by rw [← HT.out]; exact HG.out⟩, by simp [intOf]; omega⟩
                        · go_wp2_with fail
                          refine (rAdd_any t 9223372036854775807 _ ht0 ht1 (by omega) (by omega)).mono ?_
                          rintro e w9 ⟨rfl, rfl⟩
                          go_wp2_with fail
                          have hbd := Sp.addS_bd t 9223372036854775807
                          exact ⟨⟨g, a2, Sp.addS t 9223372036854775807, rfl, ha2', rfl, hbd.1, hbd.2, hbb, HL.out, by rw [← HT.out]; exact HG.out⟩, by simp [intOf]; omega⟩
                    · go_wp2_with fail
                      refine HBL.out.mono ?_
                      rintro e w7 ⟨rfl, rfl⟩
                      go_wp2_with fail
                      refine (mul_any v V _ hv0 hv1 hV1 hV2).mono ?_
                      rintro e w8 ⟨⟨hi, lo, rfl, hlo0, hlo1, hhi0, hhi1, hM⟩, rfl⟩
                      by_cases hsm : v * V < 9223372036854775807
                      · obtain ⟨hz, hlo⟩ := hM.small hsm
                        have hlo2 : lo < 9223372036854775807 := by omega
                        have hz2 : (hi == 0) = true := by simpa using hz
                        have HT : Hid (Sp.timesS v V = lo) := (val_times v V hV1 hsm).trans hlo.symm
                        clear hlo hz hM hsm
                        go_wp2_with fail
                        refine (rAdd_any t lo _ ht0 ht1 (by omega) (by omega)).mono ?_
                        rintro e w9 ⟨rfl, rfl⟩
                        go_wp2_with fail
                        have hbd := Sp.addS_bd t lo
                        exact ⟨⟨g, a2, Sp.addS t lo, rfl, ha2', rfl, hbd.1, hbd.2, hbb, HL.out, by rw [← HT.out]; exact HG.out⟩, by simp [intOf]; omega⟩
                      · have hbig := hM.big hsm
                        have HT : Hid (Sp.timesS v V = 9223372036854775807) := val_times_top v V hV1 hsm
                        have hcs : (hi == 0) = false ∨ (hi == 0) = true ∧ ¬ lo < 9223372036854775807 := by
                          by_cases hz : hi = 0
                          · refine .inr ⟨by simpa using hz, ?_⟩
                            rcases hbig with h | h
                            · exact absurd hz h
                            · exact h
                          · exact .inl (by simpa using hz)
                        clear hbig hM hsm
                        rcases hcs with hz2 | ⟨hz2, hlo2⟩
                        · go_wp2_with fail
                          refine (rAdd_any t 9223372036854775807 _ ht0 ht1 (by omega) (by omega)).mono ?_
                          rintro e w9 ⟨rfl, rfl⟩
                          go_wp2_with fail
                          have hbd := Sp.addS_bd t 9223372036854775807
                          exact ⟨⟨g, a2, Sp.addS t 9223372036854775807, rfl, ha2', rfl, hbd.1, hbd.2, hbb, HL.out, by rw [← HT.out]; exact HG.out⟩, by simp [intOf]; omega⟩
                        · go_wp2_with fail
                          refine (rAdd_any t 9223372036854775807 _ ht0 ht1 (by omega) (by omega)).mono ?_
                          rintro e w9 ⟨rfl, rfl⟩
                          go_wp2_with fail
                          have hbd := Sp.addS_bd t 9223372036854775807
                          exact ⟨⟨g, a2, Sp.addS t 9223372036854775807, rfl, ha2', rfl, hbd.1, hbd.2, hbb, HL.out, by rw [← HT.out]; exact HG.out⟩, by simp [intOf]; omega⟩
              · have hkj' : ¬ (k : Int) + (j : Int) < (r.size : Int) := by omega
                by_cases hj0 : j = 0
                · subst hj0
                  omega
                · have hj0' : ((j : Int) == 0) = false := by simp; omega
                  have hj0'' : 0 < j := by omega
                  clear hj0
                  go_wp2_with fail
                  have hA1 := bAt_le r (k + j) hkj
                  refine (blanks_i r k j _ hrs hkj).mono ?_
                  rintro e w5 ⟨rfl, rfl⟩
                  have hAd : Hid (r.data.toList.drop (bAt r.data.toList (k + j)) = Sp.blk ((r.data.toList.drop k).drop j)) := by
                    show _ = _
                    rw [bAt_drop, List.drop_drop]
                  generalize bAt r.data.toList (k + j) = a1 at hA1 hAd ⊢
                  obtain ⟨ha1, ha1'⟩ := hA1
                  go_wp2_with fail
                  refine (unit_q r a1 _ hrs).mono ?_
                  rintro e w6 ⟨⟨V, N, rfl, hU⟩, hb6⟩
                  have hV1 := hU.lo
                  have hV2 := hU.hi
                  have hNl : a1 + N ≤ r.size := by
                    have := hU.len
                    rw [List.length_drop, size_list] at this
                    omega
                  have hbb := hb.trans (hb6.mono hb.size)
                  have hbsz := hbb.size
                  have hF := part_facts (r.data.toList.drop k) j HJ.out hj0'' h18 _ hAd.out V N hU
                  have hF1 : Hid (N = 0 → r.data.toList.drop a1 ≠ [] → Sp.partB (r.data.toList.drop k) = false) := hF.1
                  have hF2 : Hid ((N = 0 → r.data.toList.drop a1 = []) → Sp.partB (r.data.toList.drop k) = true ∧ Sp.partV (r.data.toList.drop k) = Sp.timesS (Sp.valS ((r.data.toList.drop k).take j)) V ∧ Sp.partR (r.data.toList.drop k) = Sp.blk ((r.data.toList.drop a1).drop N)) := hF.2
                  clear hF hU hb hb6 hAd
                  by_cases hbad : N = 0 ∧ a1 < r.size
                  · obtain ⟨hN0, hlt2⟩ := hbad
                    have hno : Hid (Sp.parse s.data.toList = none) := hh.out.2.trans (Sp.parseGo_no _ _ _ hqne.out (hF1.out hN0 (by
                      intro e
                      have := congrArg List.length e
                      rw [List.length_drop, size_list] at this
                      simp at this
                      omega)))
                    have hNb : ((N : Int) == 0) = true := by simp; omega
                    clear hh hN0 hF1 hF2
                    go_wp2_with fail
                    go_ret2
                    exact ⟨fin_none hno.out, hbb⟩
                  · have hgo : Hid (N = 0 → r.data.toList.drop a1 = []) := fun h0 => List.drop_eq_nil_of_le (by rw [size_list]; omega)
                    obtain ⟨p1, p2, p3⟩ := hF2.out hgo.out
                    obtain ⟨g, hg1, hg2⟩ := Sp.parseGo_yes f t _ hqne.out hh.out.1 p1
                    have hgo2 := hh.out.2.trans hg2
                    rw [p2, p3] at hgo2
                    rw [p3] at hg1
                    have HG : Hid (Sp.parse s.data.toList = Sp.parseGo g (Sp.addS t (Sp.timesS (Sp.valS ((r.data.toList.drop k).take j)) V)) (Sp.blk ((r.data.toList.drop a1).drop N))) := hgo2
                    have HL : Hid ((Sp.blk ((r.data.toList.drop a1).drop N)).length ≤ g) := hg1
                    clear p1 p2 p3 hg1 hg2 hgo2 hgo hF1 hF2 hh
                    rw [List.drop_drop] at HG HL
                    have hv0' := hv0
                    have hv1' := hv1
                    have hA2 := bAt_le r (a1 + N) hNl
                    have hAd2 : Hid (r.data.toList.drop (bAt r.data.toList (a1 + N)) = Sp.blk (r.data.toList.drop (a1 + N))) := bAt_drop _ _
                    have hBL := blanks_i r a1 N w6 hrs hNl
                    have HBL : Hid (Calls Tryd.prog 27 #[.string r, .int .i64 ((a1 : Int) + (N : Int))] w6 fun e w' => e = .returned (.int .i64 (bAt r.data.toList (a1 + N))) ∧ w' = w6) := hBL
                    clear hBL
                    generalize bAt r.data.toList (a1 + N) = a2 at hA2 hAd2 HBL
                    obtain ⟨ha2, ha2'⟩ := hA2
                    rw [← hAd2.out] at HG HL
                    generalize Sp.valS ((r.data.toList.drop k).take j) = v at hv0 hv1 hv0' hv1' HG ⊢
                    clear hAd2
                    have hcases : ((N : Int) == 0) = true ∧ ¬ (a1 : Int) < (r.size : Int) ∨ ((N : Int) == 0) = false := by
                      by_cases h0 : N = 0
                      · exact .inl ⟨by simp; omega, by omega⟩
                      · exact .inr (by simp; omega)
                    clear hbad
                    rcases hcases with ⟨hNb, hge⟩ | hNb
                    · go_wp2_with fail
                      refine HBL.out.mono ?_
                      rintro e w7 ⟨rfl, rfl⟩
                      go_wp2_with fail
                      refine (mul_any v V _ hv0 hv1 hV1 hV2).mono ?_
                      rintro e w8 ⟨⟨hi, lo, rfl, hlo0, hlo1, hhi0, hhi1, hM⟩, rfl⟩
                      by_cases hsm : v * V < 9223372036854775807
                      · obtain ⟨hz, hlo⟩ := hM.small hsm
                        have hlo2 : lo < 9223372036854775807 := by omega
                        have hz2 : (hi == 0) = true := by simpa using hz
                        have HT : Hid (Sp.timesS v V = lo) := (val_times v V hV1 hsm).trans hlo.symm
                        clear hlo hz hM hsm
                        go_wp2_with fail
                        refine (rAdd_any t lo _ ht0 ht1 (by omega) (by omega)).mono ?_
                        rintro e w9 ⟨rfl, rfl⟩
                        go_wp2_with fail
                        have hbd := Sp.addS_bd t lo
                        exact ⟨⟨g, a2, Sp.addS t lo, rfl, ha2', rfl, hbd.1, hbd.2, hbb, HL.out, by rw [← HT.out]; exact HG.out⟩, by simp [intOf]; omega⟩
                      · have hbig := hM.big hsm
                        have HT : Hid (Sp.timesS v V = 9223372036854775807) := val_times_top v V hV1 hsm
                        have hcs : (hi == 0) = false ∨ (hi == 0) = true ∧ ¬ lo < 9223372036854775807 := by
                          by_cases hz : hi = 0
                          · refine .inr ⟨by simpa using hz, ?_⟩
                            rcases hbig with h | h
                            · exact absurd hz h
                            · exact h
                          · exact .inl (by simpa using hz)
                        clear hbig hM hsm
                        rcases hcs with hz2 | ⟨hz2, hlo2⟩
                        · go_wp2_with fail
                          refine (rAdd_any t 9223372036854775807 _ ht0 ht1 (by omega) (by omega)).mono ?_
                          rintro e w9 ⟨rfl, rfl⟩
                          go_wp2_with fail
                          have hbd := Sp.addS_bd t 9223372036854775807
                          exact ⟨⟨g, a2, Sp.addS t 9223372036854775807, rfl, ha2', rfl, hbd.1, hbd.2, hbb, HL.out, by rw [← HT.out]; exact HG.out⟩, by simp [intOf]; omega⟩
                        · go_wp2_with fail
                          refine (rAdd_any t 9223372036854775807 _ ht0 ht1 (by omega) (by omega)).mono ?_
                          rintro e w9 ⟨rfl, rfl⟩
                          go_wp2_with fail
                          have hbd := Sp.addS_bd t 9223372036854775807
                          exact ⟨⟨g, a2, Sp.addS t 9223372036854775807, rfl, ha2', rfl, hbd.1, hbd.2, hbb, HL.out, by rw [← HT.out]; exact HG.out⟩, by simp [intOf]; omega⟩
                    · go_wp2_with fail
                      refine HBL.out.mono ?_
                      rintro e w7 ⟨rfl, rfl⟩
                      go_wp2_with fail
                      refine (mul_any v V _ hv0 hv1 hV1 hV2).mono ?_
                      rintro e w8 ⟨⟨hi, lo, rfl, hlo0, hlo1, hhi0, hhi1, hM⟩, rfl⟩
                      by_cases hsm : v * V < 9223372036854775807
                      · obtain ⟨hz, hlo⟩ := hM.small hsm
                        have hlo2 : lo < 9223372036854775807 := by omega
                        have hz2 : (hi == 0) = true := by simpa using hz
                        have HT : Hid (Sp.timesS v V = lo) := (val_times v V hV1 hsm).trans hlo.symm
                        clear hlo hz hM hsm
                        go_wp2_with fail
                        refine (rAdd_any t lo _ ht0 ht1 (by omega) (by omega)).mono ?_
                        rintro e w9 ⟨rfl, rfl⟩
                        go_wp2_with fail
                        have hbd := Sp.addS_bd t lo
                        exact ⟨⟨g, a2, Sp.addS t lo, rfl, ha2', rfl, hbd.1, hbd.2, hbb, HL.out, by rw [← HT.out]; exact HG.out⟩, by simp [intOf]; omega⟩
                      · have hbig := hM.big hsm
                        have HT : Hid (Sp.timesS v V = 9223372036854775807) := val_times_top v V hV1 hsm
                        have hcs : (hi == 0) = false ∨ (hi == 0) = true ∧ ¬ lo < 9223372036854775807 := by
                          by_cases hz : hi = 0
                          · refine .inr ⟨by simpa using hz, ?_⟩
                            rcases hbig with h | h
                            · exact absurd hz h
                            · exact h
                          · exact .inl (by simpa using hz)
                        clear hbig hM hsm
                        rcases hcs with hz2 | ⟨hz2, hlo2⟩
                        · go_wp2_with fail
                          refine (rAdd_any t 9223372036854775807 _ ht0 ht1 (by omega) (by omega)).mono ?_
                          rintro e w9 ⟨rfl, rfl⟩
                          go_wp2_with fail
                          have hbd := Sp.addS_bd t 9223372036854775807
                          exact ⟨⟨g, a2, Sp.addS t 9223372036854775807, rfl, ha2', rfl, hbd.1, hbd.2, hbb, HL.out, by rw [← HT.out]; exact HG.out⟩, by simp [intOf]; omega⟩
                        · go_wp2_with fail
                          refine (rAdd_any t 9223372036854775807 _ ht0 ht1 (by omega) (by omega)).mono ?_
                          rintro e w9 ⟨rfl, rfl⟩
                          go_wp2_with fail
                          have hbd := Sp.addS_bd t 9223372036854775807
                          exact ⟨⟨g, a2, Sp.addS t 9223372036854775807, rfl, ha2', rfl, hbd.1, hbd.2, hbb, HL.out, by rw [← HT.out]; exact HG.out⟩, by simp [intOf]; omega⟩
        · have hnil : Hid (Sp.parse s.data.toList = some t) := by
            show _ = _
            rw [hh.out.2, List.drop_eq_nil_of_le (by rw [size_list]; omega), Sp.parseGo_nil]
          clear hh
          go_wp2_with fail
          go_ret2
          exact ⟨fin_some hnil.out, hb⟩
end Go.Proofs.YtlnfapkpehhafaaDoor
