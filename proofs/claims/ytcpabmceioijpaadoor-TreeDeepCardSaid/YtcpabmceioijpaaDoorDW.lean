/- The walk of the law TreeDeep. -/
import Derived.Test.YtcpabmceioijpaaDoorDP
namespace Go.Proofs.YtcpabmceioijpaaDoor
open Go.RowKit Go.Shelf
attribute [local go_sem] Oper.semAt_some
theorem addS (x y : L) (hx : x.length ≤ 100000) (hy : y.length ≤ 100000) (W : World) : (Op.stringOp .add (mkS x) (mkS y)).run Tryd.prog W = .ok (.string (mkS (x ++ y))) W := run_string_add_lists W x y (by omega) (by omega)
theorem add_rep (j : Nat) (hj : j ≤ 100) (W : World) : (Op.stringOp .add (repB j) ⟨#[112]⟩).run Tryd.prog W = .ok (.string (repB (j + 1))) W := by
  have := addS (List.replicate j 112) [112] (by simp; omega) (by simp) W
  rw [show List.replicate j (112 : UInt8) ++ [112] = List.replicate (j + 1) 112 from (List.replicate_succ' ..).symm] at this
  exact this
theorem add_p1 (z i : Nat) (hi : i ≤ 100) (hz : z ≤ 100) (W : World) : (Op.stringOp .add (pB z i) ⟨#[47]⟩).run Tryd.prog W = .ok (.string (mkS (pthL z i ++ [47]))) W := addS (pthL z i) [47] (by rw [pthL_len]; have := Nat.mul_le_mul hi (show z + 1 ≤ 101 by omega); omega) (by simp) W
theorem add_p2 (z i : Nat) (hi : i ≤ 100) (hz : z ≤ 100) (W : World) : (Op.stringOp .add (mkS (pthL z i ++ [47])) (repB z)).run Tryd.prog W = .ok (.string (pB z (i + 1))) W := by
  have := addS (pthL z i ++ [47]) (List.replicate z 112) (by rw [List.length_append, pthL_len]; have := Nat.mul_le_mul hi (show z + 1 ≤ 101 by omega); simp; omega) (by simp; omega) W
  rw [List.append_assoc] at this
  exact this
def EJ (W1 : World) (S : St) (n : Nat) (W : World) : Prop := ∃ P d, Fr W1 { S with p := P, c := S.c + d } W ∧ d ≤ n ∧ S.c = 1 ∧ inS rootS P.ks = true
theorem bad_any {W1 W : World} {S : St} {n : Nat} {b : ByteArray} (hb : b.size ≤ 10) (hp : isP b = false) (hW : EJ W1 S n W) (hn : n ≤ 1000) : Calls Tryd.prog 10 #[.pointer (some ⟨S.bt, 0, none⟩), .string b, .bool true] W fun e W' => e = .returned (.int .i64 111) ∧ EJ W1 S (n + 4) W' := by
  obtain ⟨P, d, f1, f2, f3, f4⟩ := hW
  have hM := make_any _ b true W f1.g (by omega) (by show S.c + d ≤ 900000; omega)
  rw [makeP_form _ _ _ hp] at hM
  refine hM.mono ?_
  rintro e W' ⟨rfl, g⟩
  exact ⟨rfl, P, d + 4, by have := f1.step g; rw [show ({ S with p := P, c := S.c + d } : St).c + 4 = S.c + (d + 4) from Nat.add_assoc _ _ _] at this; exact this, by omega, f3, f4⟩
theorem root_any {W1 W : World} {S : St} {n : Nat} (hW : EJ W1 S n W) (hn : n ≤ 1000) : Calls Tryd.prog 10 #[.pointer (some ⟨S.bt, 0, none⟩), .string ⟨#[47]⟩, .bool true] W fun e W' => e = .returned (.int .i64 112) ∧ EJ W1 S (n + 4) W' := by
  obtain ⟨P, d, f1, f2, f3, f4⟩ := hW
  have hM := make_any _ rootS true W f1.g (by decide) (by show S.c + d ≤ 900000; omega)
  rw [makeP_there _ _ _ (by kernel_rfl) f4] at hM
  refine hM.mono ?_
  rintro e W' ⟨rfl, g⟩
  exact ⟨rfl, P, d + 4, by have := f1.step g; rw [show ({ S with p := P, c := S.c + d } : St).c + 4 = S.c + (d + 4) from Nat.add_assoc _ _ _] at this; exact this, by omega, f3, f4⟩
set_option maxRecDepth 100000 in
set_option maxHeartbeats 4000000 in
theorem deep_walk (n1 n2 : Nat) (ds : Bool) (w : World) (hg : Mx w) (h1 : n1 ≤ 255) (h2 : n2 ≤ 255) :
    Calls Tryd.prog 6 #[.int .u8 n1, .int .u8 n2, .bool ds] w fun e w' => e = .returned (.bool true) ∧ Below w.heap.size w w' := by
  have hK := hidP (known_any w hg)
  obtain ⟨k, hk⟩ : ∃ k, n1 % 12 = k := ⟨_, rfl⟩
  obtain ⟨z0, hz0⟩ : ∃ z, n2 % 50 = z := ⟨_, rfl⟩
  have hk12 : k < 12 := by omega
  have hz50 : z0 < 50 := by omega
  have hmk : ((n1 : Nat) : Int).tmod 12 = (k : Int) := by rw [Int.tmod_eq_emod_of_nonneg (by omega)]; omega
  have hmz : ((n2 : Nat) : Int).tmod 50 = (z0 : Int) := by rw [Int.tmod_eq_emod_of_nonneg (by omega)]; omega
  obtain ⟨z, hz⟩ : ∃ z : Nat, z0 + 1 = z := ⟨_, rfl⟩
  have hzI : (z0 : Int) + 1 = (z : Int) := by omega
  have hgH := hidP hg
  clear hk hz0 h1 h2 hg
  go_enter Tryd.func6, Tryd.ntmps6
  go_wp2_with fail
  refine hK.out.mono ?_
  rintro e W1 ⟨rfl, hb1⟩
  have hb1H := hidP hb1
  have hg1 : Hid (Mx W1) := hgH.out.mv (E := fun _ => False) (Mv.below hb1) (fun h => h)
  clear hK hb1
  go_wp2_with (rw [hzI])
  go_loop [9, 10] (fun v i => ∃ (j : Nat) (R : ByteArray), j ≤ z ∧ i = .int .i64 j ∧ v = .string R ∧ Hid (R = repB j)) (fun _ i => z - (intOf i).toNat)
  case atStart => exact ⟨0, _, by omega, rfl, rfl, rfl⟩
  case round =>
    obtain ⟨j, R, hj, rfl, rfl, hR⟩ := hrel
    by_cases hlt : j < z
    · have hltI : (j : Int) < (z : Int) := by omega
      obtain ⟨R', hR'⟩ : ∃ R', repB (j + 1) = R' := ⟨_, rfl⟩
      have hadd : (Op.stringOp .add R ⟨#[112]⟩).run Tryd.prog W1 = .ok (.string R') W1 := by rw [hR.out, ← hR']; exact add_rep j (by omega) W1
      have hR'H : Hid (R' = repB (j + 1)) := hR'.symm
      clear hR hR'
      go_wp2_with fail
      go_round
      case rel => exact ⟨j + 1, R', by omega, by push_cast; rfl, rfl, hR'H.out⟩
      case measure => simp [intOf]; omega
    · obtain rfl : j = z := by omega
      have hN := hidP (new_any W1 hg1.out)
      go_wp2_with fail
      refine hN.out.mono ?_
      rintro e W2 ⟨S, rfl, hT, hp, hc, hb, m1, m2, m3⟩
      have F0 : Fr W1 S W2 := ⟨hT, hb, m1, m2, m3⟩
      have FH : Hid (∃ P d, Fr W1 { S with p := P, c := S.c + d } W2 ∧ d ≤ 0 ∧ S.c = 1 ∧ DJ j 0 P) := ⟨S.p, 0, F0, Nat.le_refl _, hc, by rw [hp]; exact DJ.zero j⟩
      clear hN hT hp hc hb m1 m2 m3 F0 hlt
      go_wp2_with fail
      go_loopw [12, 13, 14] (fun v i _ wr => ∃ (m q : Nat) (Q : ByteArray), q ≤ k ∧ i = .int .i64 m ∧ v = .string Q ∧ Hid (m = q + 1 ∧ Q = pB j q) ∧ Hid (∃ P d, Fr W1 { S with p := P, c := S.c + d } wr ∧ d ≤ 4 * q ∧ S.c = 1 ∧ DJ j q P)) (fun _ i _ _ => (k + 1) - (intOf i).toNat)
      case atStart =>
        obtain ⟨P, d, h1, h2, h3, h4⟩ := FH.out
        exact ⟨1, 0, _, by omega, rfl, rfl, ⟨rfl, rfl⟩, P, d, h1, h2, h3, h4⟩
      case round =>
        clear FH
        obtain ⟨m, q, Q, hqk, rfl, rfl, hmq, hI⟩ := hrel
        by_cases hlt : q < k
        · have hltI : (m : Int) ≤ (k : Int) := by have := hmq.out.1; omega
          have hsz : (pB j (q + 1)).size ≤ 1000 := by
            rw [pB_size]
            have := Nat.mul_le_mul (show q + 1 ≤ 11 by omega) (show j + 1 ≤ 51 by omega)
            omega
          obtain ⟨P, d, h1, h2, h3, h4⟩ := hI.out
          obtain ⟨Q1, hQ1⟩ : ∃ Q1, mkS (pthL j q ++ [47]) = Q1 := ⟨_, rfl⟩
          obtain ⟨Q2, hQ2⟩ : ∃ Q2, pB j (q + 1) = Q2 := ⟨_, rfl⟩
          have ha1 : (Op.stringOp .add Q ⟨#[47]⟩).run Tryd.prog wr = .ok (.string Q1) wr := by rw [hmq.out.2, ← hQ1]; exact add_p1 j q (by omega) (by omega) wr
          have ha2 : (Op.stringOp .add Q1 R).run Tryd.prog wr = .ok (.string Q2) wr := by rw [hR.out, ← hQ1, ← hQ2]; exact add_p2 j q (by omega) (by omega) wr
          have hM := make_any _ (pB j (q + 1)) true wr h1.g hsz (by show S.c + d ≤ 900000; omega)
          have hM : Calls Tryd.prog 10 #[.pointer (some ⟨S.bt, 0, none⟩), .string (pB j (q + 1)), .bool true] wr fun e w' => e = .returned (.int .i64 (makeP P (pB j (q + 1)) true).1) ∧ Goes { S with p := P, c := S.c + d } wr (makeP P (pB j (q + 1)) true).2 4 w' := hM
          by_cases hbad : 40 < j ∨ 8 ≤ q
          · have hP := DJ.badM (P := P) (j := q) (z := j) (by omega) (by omega) hbad
            rw [hP, hQ2] at hM
            have hfin : Hid (∀ w', Goes { S with p := P, c := S.c + d } wr P 4 w' → ∃ P' d', Fr W1 { S with p := P', c := S.c + d' } w' ∧ d' ≤ 4 * (q + 1) ∧ S.c = 1 ∧ DJ j (q + 1) P') := fun w' g => ⟨P, d + 4, by have := h1.step g; rw [show ({ S with p := P, c := S.c + d } : St).c + 4 = S.c + (d + 4) from Nat.add_assoc _ _ _] at this; exact this, by omega, h3, h4.bad hbad⟩
            have hMH := hidP hM
            have hrel : Hid (m + 1 = q + 1 + 1 ∧ Q2 = pB j (q + 1)) := ⟨by have := hmq.out.1; omega, hQ2.symm⟩
            have hm40 : Hid (40 < j ∨ 8 < m) := by have := hmq.out.1; show _ ∨ _; omega
            have hmk : Hid (m ≤ k) := by have := hmq.out.1; show _ ≤ _; omega
            clear hI h1 h2 h3 h4 hM hP hQ1 hQ2 hmq hsz
            by_cases h40 : 40 < j
            · have h40I : (40 : Int) < (j : Int) := by omega
              clear hbad
              go_wp2_with fail
              refine hMH.out.mono ?_
              rintro e W3 ⟨rfl, G3⟩
              have F3 := hidP (hfin.out _ G3)
              clear G3 hfin hMH ha1 ha2
              go_wp2_with fail
              go_roundw
              case rel => exact ⟨m + 1, q + 1, Q2, by omega, by push_cast; rfl, rfl, hrel.out, F3.out⟩
              case measure => have := hmk.out; simp [intOf]; omega
            · have h40I : ¬ (40 : Int) < (j : Int) := by omega
              have h8I : (8 : Int) < (m : Int) := by have := hm40.out; omega
              clear hbad
              go_wp2_with fail
              refine hMH.out.mono ?_
              rintro e W3 ⟨rfl, G3⟩
              have F3 := hidP (hfin.out _ G3)
              clear G3 hfin hMH ha1 ha2
              go_wp2_with fail
              go_roundw
              case rel => exact ⟨m + 1, q + 1, Q2, by omega, by push_cast; rfl, rfl, hrel.out, F3.out⟩
              case measure => have := hmk.out; simp [intOf]; omega
          · have hz40 : j ≤ 40 := by omega
            have hq8 : q < 8 := by omega
            obtain ⟨hP, hD, hin⟩ := h4.ok (by omega) hz40 hq8
            rw [hP] at hM
            obtain ⟨P', hP'⟩ : ∃ P', (makeP P (pB j (q + 1)) true).2 = P' := ⟨_, rfl⟩
            rw [hP'] at hM hD hin
            simp only at hM
            have hex : Hid (∀ w', Goes { S with p := P, c := S.c + d } wr P' 4 w' → Calls Tryd.prog 22 #[.pointer (some ⟨S.bt, 0, none⟩), .string Q2] w' fun e u => e = .returned (.bool true) ∧ Below w'.heap.size w' u) := fun w' g => by
              have := exists_any _ (pB j (q + 1)) w' g.g hsz
              rw [show ({ S with p := P', c := S.c + d + 4 } : St).p.ks = P'.ks from rfl, hin, hQ2] at this
              exact this
            have hfin : Hid (∀ w', Goes { S with p := P, c := S.c + d } wr P' 4 w' → ∃ P' d', Fr W1 { S with p := P', c := S.c + d' } w' ∧ d' ≤ 4 * (q + 1) ∧ S.c = 1 ∧ DJ j (q + 1) P') := fun w' g => ⟨P', d + 4, by have := h1.step g; rw [show ({ S with p := P, c := S.c + d } : St).c + 4 = S.c + (d + 4) from Nat.add_assoc _ _ _] at this; exact this, by omega, h3, hD⟩
            rw [hQ2] at hM
            have hMH := hidP hM
            have hrel : Hid (m + 1 = q + 1 + 1 ∧ Q2 = pB j (q + 1)) := ⟨by have := hmq.out.1; omega, hQ2.symm⟩
            have hmk : Hid (m ≤ k) := by have := hmq.out.1; show _ ≤ _; omega
            have h40I : ¬ (40 : Int) < (j : Int) := by omega
            have h8I : ¬ (8 : Int) < (m : Int) := by have := hmq.out.1; omega
            clear hI h1 h2 h3 h4 hM hP hQ1 hQ2 hmq hsz hD hin hP' hbad
            go_wp2_with fail
            refine hMH.out.mono ?_
            rintro e W3 ⟨rfl, G3⟩
            have F3 := hidP (hfin.out _ G3)
            have hx := hidP (hex.out _ G3)
            clear G3 hfin hMH ha1 ha2 hex
            go_wp2_with fail
            refine hx.out.mono ?_
            rintro e W4 ⟨rfl, hb4⟩
            have F4 : Hid (∃ P' d', Fr W1 { S with p := P', c := S.c + d' } W4 ∧ d' ≤ 4 * (q + 1) ∧ S.c = 1 ∧ DJ j (q + 1) P') := by
              obtain ⟨P', d', f1, f2, f3, f4⟩ := F3.out
              exact ⟨P', d', f1.below hb4, f2, f3, f4⟩
            clear F3 hb4 hx
            go_wp2_with fail
            go_roundw
            case rel => exact ⟨m + 1, q + 1, Q2, by omega, by push_cast; rfl, rfl, hrel.out, F4.out⟩
            case measure => have := hmk.out; simp [intOf]; omega
        · have hltI : ¬ (m : Int) ≤ (k : Int) := by have := hmq.out.1; omega
          have E0 : Hid (EJ W1 S 100 wr) := by
            obtain ⟨P, d, h1, h2, h3, h4⟩ := hI.out
            refine ⟨P, d, h1, by omega, h3, inS_iff.2 (Classical.byContradiction fun c => ?_)⟩
            have z : P.nd rootS = ndZ := h1.g.z rootS c
            have := h4.r
            rw [z] at this
            cases this
          have hbH := hb1H
          clear hI hmq hR hlt
          cases ds with
          | false =>
            have hM1 := hidP (bad_any (b := ⟨#[47, 97, 47, 46]⟩) (by decide) (by kernel_rfl) E0.out (by omega))
            clear E0
            go_wp2_with fail
            refine hM1.out.mono ?_
            rintro e V1 ⟨rfl, E1⟩
            have hM2 := hidP (bad_any (b := ⟨#[]⟩) (by decide) (by kernel_rfl) E1 (by omega))
            clear E1 hM1
            go_wp2_with fail
            refine hM2.out.mono ?_
            rintro e V2 ⟨rfl, E2⟩
            have hM3 := hidP (bad_any (b := ⟨#[47, 120, 47]⟩) (by decide) (by kernel_rfl) E2 (by omega))
            clear E2 hM2
            go_wp2_with fail
            refine hM3.out.mono ?_
            rintro e V3 ⟨rfl, E3⟩
            have hM4 := hidP (root_any E3 (by omega))
            clear E3 hM3
            go_wp2_with fail
            refine hM4.out.mono ?_
            rintro e V4 ⟨rfl, E4⟩
            have fin : Hid (Below w.heap.size w V4) := by
              obtain ⟨P, d, f1, _⟩ := E4
              exact hbH.out.trans (f1.b.mono hbH.out.size)
            clear E4 hM4
            go_wp2_with fail
            go_ret
            exact ⟨rfl, fin.out⟩
          | true =>
            have hM1 := hidP (bad_any (b := ⟨#[47, 46, 46]⟩) (by decide) (by kernel_rfl) E0.out (by omega))
            clear E0
            go_wp2_with fail
            refine hM1.out.mono ?_
            rintro e V1 ⟨rfl, E1⟩
            have hM2 := hidP (bad_any (b := ⟨#[]⟩) (by decide) (by kernel_rfl) E1 (by omega))
            clear E1 hM1
            go_wp2_with fail
            refine hM2.out.mono ?_
            rintro e V2 ⟨rfl, E2⟩
            have hM3 := hidP (bad_any (b := ⟨#[47, 120, 47]⟩) (by decide) (by kernel_rfl) E2 (by omega))
            clear E2 hM2
            go_wp2_with fail
            refine hM3.out.mono ?_
            rintro e V3 ⟨rfl, E3⟩
            have hM4 := hidP (root_any E3 (by omega))
            clear E3 hM3
            go_wp2_with fail
            refine hM4.out.mono ?_
            rintro e V4 ⟨rfl, E4⟩
            have fin : Hid (Below w.heap.size w V4) := by
              obtain ⟨P, d, f1, _⟩ := E4
              exact hbH.out.trans (f1.b.mono hbH.out.size)
            clear E4 hM4
            go_wp2_with fail
            go_ret
            exact ⟨rfl, fin.out⟩
end Go.Proofs.YtcpabmceioijpaaDoor
