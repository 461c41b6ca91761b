/- The walk of the law LineLong. -/
import Derived.Test.YtcihilaofehomaaDoorK1
import Derived.Test.YtcihilaofehomaaDoorLN5
namespace Go.Proofs.YtcihilaofehomaaDoor
open Go.RowKit Lin
/-- The text and its size when i parts of k stand. -/
def tx (q k i : Nat) : L := [91, 65, 93, 10, 107, 61] ++ (if i < k then parts q i else parts q (k - 1) ++ List.replicate q 118)
def sz (q k i : Nat) : Nat := if i < k then 2 + i * (q + 1) else 2 + (k - 1) * (q + 1) + q
theorem tx_next {q k i : Nat} (h : i + 1 < k) : tx q k (i + 1) = tx q k i ++ List.replicate q 118 ++ [92, 10] := by
  unfold tx
  rw [if_pos h, if_pos (by omega), parts_snoc]
  simp
theorem tx_last {q k i : Nat} (h : i + 1 = k) : tx q k (i + 1) = tx q k i ++ List.replicate q 118 := by
  unfold tx
  rw [if_neg (by omega), if_pos (by omega)]
  subst h
  simp
theorem sz_next {q k i : Nat} (h : i + 1 < k) : sz q k (i + 1) = sz q k i + q + 1 := by
  unfold sz
  rw [if_pos h, if_pos (by omega), Nat.add_mul]
  omega
theorem sz_last {q k i : Nat} (h : i + 1 = k) : sz q k (i + 1) = sz q k i + q := by
  unfold sz
  rw [if_neg (by omega), if_pos (by omega)]
  subst h
  simp
theorem sz_le {q k i : Nat} (hk : k ≤ 5) (hq : q ≤ 600) : sz q k i ≤ 4000 := by
  unfold sz
  have h1 : (k - 1) * (q + 1) ≤ 4 * 601 := Nat.mul_le_mul (by omega) (by omega)
  split
  · have : i * (q + 1) ≤ 5 * 601 := Nat.mul_le_mul (by omega) (by omega)
    omega
  · omega
theorem tx_le {q k i : Nat} (hk : k ≤ 5) (hq : q ≤ 600) : (tx q k i).length ≤ 5000 := by
  unfold tx
  have h1 : (k - 1) * (q + 2) ≤ 4 * 602 := Nat.mul_le_mul (by omega) (by omega)
  split
  · have : i * (q + 2) ≤ 5 * 602 := Nat.mul_le_mul (by omega) (by omega)
    simp only [List.length_append, List.length_cons, List.length_nil, parts_len]; omega
  · simp only [List.length_append, List.length_cons, List.length_nil, parts_len, List.length_replicate]; omega
set_option maxRecDepth 100000 in
set_option maxHeartbeats 4000000 in
theorem long_walk (n p : Nat) (w : World) (hg : Mx w) (hn : n ≤ 65535) (hp : p ≤ 255) :
    Calls Tryd.prog 7 #[.int .u16 n, .int .u8 p] w fun e w' => e = .returned (.bool true) ∧ Below w.heap.size w w' := by
  have hkn := known_any w hg
  by_cases h6 : 600 < n
  · have h6I : (600 : Int) < (n : Int) := by omega
    go_enter Tryd.func7, Tryd.ntmps7
    go_wp2_with fail
    refine hkn.mono ?_
    rintro e w1 ⟨rfl, hb1⟩
    go_wp2_with fail
    go_ret
    exact ⟨rfl, hb1⟩
  have h6I : decide ((600 : Int) < (n : Int)) = false := by simp; omega
  obtain ⟨r, hr⟩ : ∃ r, p % 5 = r := ⟨_, rfl⟩
  obtain ⟨k, hk⟩ : ∃ k, r + 1 = k := ⟨_, rfl⟩
  obtain ⟨q, hq⟩ : ∃ q, n / k = q := ⟨_, rfl⟩
  have hr5 : r < 5 := by omega
  have hrI : (p : Int) % 5 = (r : Int) := by omega
  have hkI : (r : Int) + 1 = (k : Int) := by omega
  have hk0 : 0 < k := by omega
  have hk5 : k ≤ 5 := by omega
  have hqn : q ≤ 600 := by rw [← hq]; exact Nat.le_trans (Nat.div_le_self _ _) (by omega)
  have hqk : k * q ≤ 600 := by rw [← hq]; exact Nat.le_trans (Nat.mul_div_le n k) (by omega)
  have hqI : (n : Int) / (k : Int) = (q : Int) := by rw [← hq]; rfl
  have hkz : ¬ (k : Int) = 0 := by omega
  clear hr hk hq
  have htl : (k - 1) * (q + 2) + q ≤ 610 := by
    obtain ⟨j, rfl⟩ : ∃ j, k = j + 1 := ⟨k - 1, by omega⟩
    have e1 : j + 1 - 1 = j := by omega
    rw [e1, Nat.mul_add]
    rw [Nat.add_mul, Nat.one_mul] at hqk
    omega
  go_enter Tryd.func7, Tryd.ntmps7
  go_wp2_with fail
  refine hkn.mono ?_
  rintro e w1 ⟨rfl, hb1⟩
  go_wp2_with fail
  go_loopw [5, 6, 8] (fun v z i wr => ∃ (j : Nat) (S : ByteArray), j ≤ k ∧ i = .int .i64 j ∧ v = .string S ∧ z = .int .i64 (sz q k j) ∧ Hid (S.data.toList = tx q k j) ∧ Below w.heap.size w wr) (fun _ _ i _ => k - (intOf i).toNat)
  case atStart => exact ⟨0, ⟨#[91, 65, 93, 10, 107, 61]⟩, by omega, rfl, rfl, by unfold sz; rw [if_pos hk0]; simp, by show _ = _; unfold tx; rw [if_pos hk0]; rfl, hb1⟩
  case round =>
    obtain ⟨j, S, hj, rfl, rfl, rfl, hS, hb⟩ := hrel
    have hSz : S.size ≤ 5000 := by rw [← size_list, hS.out]; exact tx_le hk5 hqn
    have hzz : sz q k j ≤ 4000 := sz_le hk5 hqn
    by_cases hjk : j < k
    · have hjI : (j : Int) < (k : Int) := by omega
      obtain ⟨z, hz⟩ : ∃ z, sz q k j = z := ⟨_, rfl⟩
      rw [hz] at hzz ⊢
      have hzH : Hid (sz q k j = z) := hz
      clear hz
      go_wp2_with fail
      go_loopw [5, 6, 9] (fun v y i wr => ∃ (m : Nat) (T : ByteArray), m ≤ q ∧ i = .int .i64 m ∧ v = .string T ∧ y = .int .i64 ((z + m : Nat) : Int) ∧ Hid (T.data.toList = tx q k j ++ List.replicate m 118) ∧ Below w.heap.size w wr) (fun _ _ i _ => q - (intOf i).toNat)
      case atStart => exact ⟨0, S, by omega, rfl, rfl, rfl, by show _ = _; rw [hS.out]; simp, hb⟩
      case round =>
        obtain ⟨m, T, hm, rfl, rfl, rfl, hT, hb2⟩ := hrel
        have hTz : T.size ≤ 6000 := by
          have := tx_le (i := j) hk5 hqn
          rw [← size_list, hT.out, List.length_append, List.length_replicate]; omega
        by_cases hmq : m < q
        · have hmI : (m : Int) < (q : Int) := by omega
          have hnx : Hid ((T ++ (⟨#[118]⟩ : ByteArray)).data.toList = tx q k j ++ List.replicate (m + 1) 118) := by
            show _ = _
            rw [app_list]
            show T.data.toList ++ [118] = _
            rw [hT.out, List.replicate_succ', List.append_assoc]
          go_wp2_with fail
          exact ⟨⟨m + 1, _, by omega, by go_num, rfl, by go_num, hnx, hb2⟩, by simp [intOf]; omega⟩
        · obtain rfl : m = q := by omega
          have hmI : ¬ (m : Int) < (m : Int) := by omega
          by_cases hl : j + 1 < k
          · have hlI : (j : Int) + 1 < (k : Int) := by omega
            have hnx : Hid ((T ++ (⟨#[92, 10]⟩ : ByteArray)).data.toList = tx m k (j + 1)) := by
              show _ = _
              rw [app_list, tx_next hl]
              show T.data.toList ++ [92, 10] = _
              rw [hT.out]
            have hsn : Hid (sz m k (j + 1) = z + m + 1) := by show _ = _; rw [sz_next hl, hzH.out]
            go_wp2_with fail
            exact ⟨⟨j + 1, _, by omega, by go_num, rfl, by rw [hsn.out]; go_num, hnx, hb2⟩, by simp [intOf]; omega⟩
          · have hlI : decide ((j : Int) + 1 < (k : Int)) = false := by simp; omega
            have hlI' : ¬ ((j : Int) + 1 < (k : Int)) := by omega
            have hnx : Hid (T.data.toList = tx m k (j + 1)) := by
              show _ = _
              rw [tx_last (by omega)]
              exact hT.out
            have hsn : Hid (sz m k (j + 1) = z + m) := by show _ = _; rw [sz_last (by omega), hzH.out]
            go_wp2_with fail
            exact ⟨⟨j + 1, _, by omega, by go_num, rfl, by rw [hsn.out], hnx, hb2⟩, by simp [intOf]; omega⟩
    · obtain rfl : j = k := by omega
      have hjI : ¬ (j : Int) < (j : Int) := by omega
      obtain ⟨lr, hlr⟩ := lns_long q (j - 1) (by omega)
      have hszj : sz q j j = 2 + (j - 1) * (q + 1) + q := by unfold sz; rw [if_neg (by omega)]
      have hSl : (S ++ (⟨#[10]⟩ : ByteArray)).data.toList = [91, 65, 93, 10, 107, 61] ++ (parts q (j - 1) ++ (List.replicate q 118 ++ [10])) := by
        rw [app_list]
        show S.data.toList ++ [10] = _
        rw [hS.out]
        unfold tx
        rw [if_neg (by omega)]
        simp
      have hli := lines_any (S ++ ⟨#[10]⟩) wr (hg.below hb)
      rw [hSl, hlr, ← hszj] at hli
      clear hlr hSl hszj
      obtain ⟨z, hz⟩ : ∃ z, sz q j j = z := ⟨_, rfl⟩
      rw [hz] at hzz hli ⊢
      clear hz
      by_cases h4 : 400 < z
      · rw [if_pos h4] at hli
        have h4I : (400 : Int) < (z : Int) := by omega
        have hli' : Hid (Calls Tryd.prog 10 #[.string (S ++ ⟨#[10]⟩)] wr fun e w' => e = .returned (.tuple #[.slice none 0 0, .int .i64 2, .int .i64 51]) ∧ Below wr.heap.size wr w') := hli
        clear hli
        go_wp2_with fail
        refine hli'.out.mono ?_
        rintro e w2 ⟨rfl, hb2⟩
        go_wp2_with fail
        go_ret
        exact ⟨rfl, hb.trans (hb2.mono hb.size)⟩
      · rw [if_neg h4] at hli
        have h4I : decide ((400 : Int) < (z : Int)) = false := by simp; omega
        have hli' : Hid (Calls Tryd.prog 10 #[.string (S ++ ⟨#[10]⟩)] wr (LinesP (.ok lr) wr)) := hli
        clear hli
        go_wp2_with fail
        refine hli'.out.mono ?_
        rintro e w2 ⟨v, rfl, _, hb2⟩
        go_wp2_with fail
        go_ret
        exact ⟨rfl, hb.trans (hb2.mono hb.size)⟩
end Go.Proofs.YtcihilaofehomaaDoor
