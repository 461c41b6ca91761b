/- Contracts of package name's isSpelt. -/
import Derived.Test.YtimmieelpaoncaaDoorR1
import Derived.Test.YtimmieelpaoncaaDoorShelf
namespace Go.Proofs.YtimmieelpaoncaaDoor
open Go.RowKit Nam
theorem byte_back (c : UInt8) : (c.toNat : Int).toNat.toUInt8 = c := by simp
theorem spC (c : UInt8) : sp c = (al c || decide (0 ≤ Lib.indexByte [58, 45, 95, 46, 92] c)) := rfl
theorem indexByte_any (s : ByteArray) (c : UInt8) (w : World) :
    Calls Tryd.prog 67 #[.string s, .int .u8 c.toNat] w fun e w' => e = .returned (.int .i64 (Lib.indexByte s.data.toList c)) ∧ w' = w := by
  have := Tryd.strings_IndexByte s c.toNat w
  rwa [byte_back] at this
set_option maxHeartbeats 2000000 in
theorem spelt_any (s : ByteArray) (w : World) (hs : s.size ≤ 2000000) :
    Calls Tryd.prog 55 #[.string s] w fun e w' => e = .returned (.bool (spelt s.data.toList)) ∧ w' = w := by
  go_enter Tryd.func55, Tryd.ntmps55
  go_wp2_with fail
  go_loop [6] (fun i => ∃ k : Nat, k ≤ s.size ∧ i = .int .i64 k ∧ Hid ((s.data.toList.take k).all sp = true)) (fun i => s.size - (intOf i).toNat)
  case atStart => exact ⟨0, by omega, rfl, rfl⟩
  case round =>
    obtain ⟨k, hk, rfl, hno⟩ := hrel
    by_cases hlt : k < s.size
    · have htk : Hid (s.data.toList.take (k + 1) = s.data.toList.take k ++ [s[k]]) := by
        show _ = _
        rw [List.take_add_one, get_list s k hlt]; rfl
      have hmem : Hid (s[k] ∈ s.data.toList) := List.mem_of_getElem? (get_list s k hlt)
      obtain ⟨c, hc⟩ : ∃ c, s[k] = c := ⟨_, rfl⟩
      rw [hc] at htk hmem
      cases hsp : sp c
      · have hF : Hid (spelt s.data.toList = false) := by
          show _ = _
          unfold spelt
          rw [← Bool.not_eq_true, List.all_eq_true]
          intro h
          rw [h c hmem.out] at hsp; cases hsp
        have ha : al c = false := by rw [spC] at hsp; simp at hsp; exact hsp.1
        have hi : Lib.indexByte [58, 45, 95, 46, 92] c < 0 := by rw [spC] at hsp; simp at hsp; omega
        go_wp2_with (first | (go_at_call 42; refine (lod_any c _).mono ?_; rintro e w' ⟨rfl, rfl⟩) | (go_at_call 67; refine (indexByte_any _ c _).mono ?_; rintro e w' ⟨rfl, rfl⟩))
        go_ret
        exact ⟨ret_bool (by rw [hF.out]), rfl⟩
      · have hn : Hid ((s.data.toList.take (k + 1)).all sp = true) := by
          show _ = _
          rw [htk.out, List.all_append, hno.out]; simp [hsp]
        cases ha : al c
        · have hi : ¬ Lib.indexByte [58, 45, 95, 46, 92] c < 0 := by rw [spC, ha] at hsp; simp at hsp; omega
          go_wp2_with (first | (go_at_call 42; refine (lod_any c _).mono ?_; rintro e w' ⟨rfl, rfl⟩) | (go_at_call 67; refine (indexByte_any _ c _).mono ?_; rintro e w' ⟨rfl, rfl⟩))
          exact ⟨⟨k + 1, by omega, by go_num, hn⟩, by simp [intOf]; omega⟩
        · go_wp2_with (first | (go_at_call 42; refine (lod_any c _).mono ?_; rintro e w' ⟨rfl, rfl⟩) | (go_at_call 67; refine (indexByte_any _ c _).mono ?_; rintro e w' ⟨rfl, rfl⟩))
          exact ⟨⟨k + 1, by omega, by go_num, hn⟩, by simp [intOf]; omega⟩
    · obtain rfl : k = s.size := by omega
      have hT : Hid (spelt s.data.toList = true) := by
        have := hno.out
        rwa [List.take_of_length_le (by rw [size_list]; omega)] at this
      go_wp2_with fail
      go_ret
      exact ⟨ret_bool (by rw [hT.out]), rfl⟩
end Go.Proofs.YtimmieelpaoncaaDoor
