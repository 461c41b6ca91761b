/- Contracts of the reference's digit, blanks, trimmed. -/
import Derived.Test.YtlnfapkpehhafaaDoorW8
import Derived.Test.YtlnfapkpehhafaaDoorMath4
namespace Go.Proofs.YtlnfapkpehhafaaDoor
open Go.RowKit
set_option maxHeartbeats 400000 in
theorem digit_any (c : Int) (w : World) :
    Calls Tryd.prog 26 #[.int .u8 c] w fun e w' => e = .returned (.bool (decide (48 ≤ c) && decide (c ≤ 57))) ∧ w' = w := by
  go_enter Tryd.func26, Tryd.ntmps26
  go_wp2
  all_goals go_ret
  all_goals (refine ⟨?_, rfl⟩; simp [*] <;> omega)
theorem drop_step (s : ByteArray) (k : Nat) (h : k < s.size) : s.data.toList.drop k = s[k] :: s.data.toList.drop (k + 1) := by
  rw [List.drop_eq_getElem_cons (by rw [size_list]; exact h)]; rfl
/-- Where the blanks from k0 on end. -/
def bAt (l : List UInt8) (k0 : Nat) : Nat := k0 + Sp.bl (l.drop k0)
set_option maxHeartbeats 1000000 in
theorem blanks_b (s : ByteArray) (k0 : Nat) (w : World) (hs : s.size ≤ maxLen) (hk0 : k0 ≤ s.size) :
    Calls Tryd.prog 27 #[.string s, .int .i64 k0] w fun e w' => e = .returned (.int .i64 (bAt s.data.toList k0)) ∧ w' = w := by
  unfold maxLen at hs
  go_enter Tryd.func27, Tryd.ntmps27
  go_wp2
  go_loop [1] (fun at_ => ∃ k : Nat, k ≤ s.size ∧ at_ = .int .i64 k ∧ Hid (bAt s.data.toList k0 = k + Sp.bl (s.data.toList.drop k))) (fun at_ => s.size - (intOf at_).toNat)
  case atStart => exact ⟨k0, hk0, rfl, rfl⟩
  case round =>
    obtain ⟨k, hk, rfl, hh⟩ := hrel
    by_cases hlt : k < s.size
    · have hd : Hid (s.data.toList.drop k = s[k] :: s.data.toList.drop (k + 1)) := drop_step s k hlt
      by_cases hc : s[k] = 32
      · have hc2 : ((s[k].toNat : Int) == 32) = true := by rw [hc]; rfl
        go_wp2
        exact ⟨⟨k + 1, by omega, by go_num, by show _ = _; rw [hh.out, hd.out, hc, Sp.bl_cons_yes]; omega⟩, by simp [intOf]; omega⟩
      · have hc2 : ((s[k].toNat : Int) == 32) = false := by
          rw [beq_eq_false_iff_ne]
          intro e
          apply hc
          apply UInt8.toNat_inj.1
          have : s[k].toNat = 32 := by omega
          rw [this]; rfl
        have hfin : Hid (bAt s.data.toList k0 = k) := by show _ = _; rw [hh.out, hd.out, Sp.bl_cons_no _ _ hc]; rfl
        clear hh hc
        go_wp2
        go_ret
        refine ⟨ret_int ?_, rfl⟩
        rw [hfin.out]
    · have hfin : Hid (bAt s.data.toList k0 = k) := by
        show _ = _
        rw [hh.out, List.drop_eq_nil_of_le (by rw [size_list]; omega)]; rfl
      clear hh
      go_wp2
      go_ret
      refine ⟨ret_int ?_, rfl⟩
      rw [hfin.out]
/-- Blanks at a list's end. -/
def EndsAt (R : List UInt8) (q : List UInt8) : Prop := ∃ n, q = R ++ List.replicate n 32
theorem ends_more {R q : List UInt8} (h : EndsAt (R ++ [32]) q) : EndsAt R q := by
  obtain ⟨n, rfl⟩ := h
  exact ⟨n + 1, by rw [List.replicate_succ]; simp⟩
theorem last_step (s : ByteArray) (h : 0 < s.size) (hc : s[s.size - 1] = 32) : s.data.toList = s.data.toList.take (s.size - 1) ++ [32] := by
  have h1 := List.take_succ_eq_append_getElem (l := s.data.toList) (i := s.size - 1) (by rw [size_list]; omega)
  rw [show s.size - 1 + 1 = s.data.toList.length by rw [size_list]; omega, List.take_length] at h1
  have h2 : s.data.toList[s.size - 1]'(by rw [size_list]; omega) = 32 := hc
  rw [h2] at h1
  exact h1
set_option maxHeartbeats 1000000 in
theorem trimmed_b (s : ByteArray) (w : World) (hs : s.size ≤ maxLen) :
    Calls Tryd.prog 25 #[.string s] w fun e w' => (∃ R : List UInt8, R.length ≤ s.size ∧ e = .returned (.string ⟨R.toArray⟩) ∧ EndsAt R (Sp.blk s.data.toList)) ∧ w' = w := by
  have hs0 := hs
  unfold maxLen at hs
  have hbl : bAt s.data.toList 0 ≤ s.size := by
    have := Sp.bl_le s.data.toList
    rw [size_list] at this
    unfold bAt; rw [List.drop_zero]; omega
  have hbk : Hid (Sp.blk s.data.toList = s.data.toList.drop (bAt s.data.toList 0)) := by
    show _ = _
    unfold bAt; rw [List.drop_zero, Nat.zero_add]; exact Sp.blk_drop _
  go_enter Tryd.func25, Tryd.ntmps25
  go_wp2_with fail
  refine (blanks_b s 0 _ hs0 (Nat.zero_le _)).mono ?_
  rintro e w1 ⟨rfl, rfl⟩
  generalize bAt s.data.toList 0 = b at hbl hbk ⊢
  go_wp2_with fail
  have hx : Hid ((s.extract b s.size).data.toList = s.data.toList.drop b) := Lib.extract_to_end s b
  have hxs : Hid ((s.extract b s.size).size ≤ s.size) := by
    show _ ≤ _
    rw [← size_list, hx.out, List.length_drop, size_list]; omega
  generalize s.extract b s.size = r0 at hx hxs ⊢
  go_loop [0] (fun v => ∃ r : ByteArray, v = .string r ∧ r.size ≤ s.size ∧ EndsAt r.data.toList (Sp.blk s.data.toList)) (fun v => lenOf v)
  case atStart => exact ⟨r0, rfl, hxs.out, 0, by rw [hbk.out, ← hx.out]; simp⟩
  case round =>
    obtain ⟨r, rfl, hr, he⟩ := hrel
    by_cases h0 : 0 < r.size
    · have hi0 : (0 : Int) ≤ (r.size : Int) - 1 := by omega
      have hi1 : (r.size : Int) - 1 < (r.size : Int) := by omega
      by_cases hc : r[r.size - 1] = 32
      · have hc2 : ((r[r.size - 1].toNat : Int) == 32) = true := by rw [hc]; rfl
        have hex : Hid ((r.extract 0 (r.size - 1)).data.toList = r.data.toList.take (r.size - 1)) := by
          show _ = _
          rw [Lib.extract_eq]; simp
        have hl : Hid (r.data.toList = r.data.toList.take (r.size - 1) ++ [32]) := last_step r h0 hc
        go_wp2
        have hz : (r.extract 0 (r.size - 1)).size = r.size - 1 := by rw [← size_list, hex.out, List.length_take, size_list]; omega
        refine ⟨⟨_, rfl, by rw [hz]; omega, ?_⟩, by show (r.extract 0 (r.size - 1)).size < r.size; rw [hz]; omega⟩
        rw [hex.out]
        apply ends_more
        rw [← hl.out]
        exact he
      · have hc2 : ((r[r.size - 1].toNat : Int) == 32) = false := by
          rw [beq_eq_false_iff_ne]
          intro e
          apply hc
          apply UInt8.toNat_inj.1
          have : r[r.size - 1].toNat = 32 := by omega
          rw [this]; rfl
        clear hc
        go_wp2
        go_ret
        exact ⟨⟨r.data.toList, by rw [size_list]; exact hr, rfl, he⟩, rfl⟩
    · go_wp2
      go_ret
      exact ⟨⟨r.data.toList, by rw [size_list]; exact hr, rfl, he⟩, rfl⟩
end Go.Proofs.YtlnfapkpehhafaaDoor
