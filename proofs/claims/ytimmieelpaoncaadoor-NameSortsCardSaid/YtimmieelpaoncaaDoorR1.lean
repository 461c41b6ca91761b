/- Contracts of the reference's hex, unhex, at, endings, parted. -/
import Derived.Test.YtimmieelpaoncaaDoorA1
import Derived.Test.YtimmieelpaoncaaDoorNM2
namespace Go.Proofs.YtimmieelpaoncaaDoor
open Go.RowKit Nam
theorem hx_at : ∀ n : Fin 16, (⟨#[48, 49, 50, 51, 52, 53, 54, 55, 56, 57, 97, 98, 99, 100, 101, 102]⟩ : ByteArray)[n.val]'(n.isLt) = hx n.val := by decide
set_option maxHeartbeats 1000000 in
theorem hex_any (n : Nat) (w : World) (hn : n < 16) :
    Calls Tryd.prog 45 #[.int .u8 n] w fun e w' => e = .returned (.int .u8 (hx n).toNat) ∧ w' = w := by
  have h := hx_at ⟨n, hn⟩
  have hI : (n : Int) < 16 := by omega
  have hI0 : (0 : Int) ≤ (n : Int) := by omega
  go_enter Tryd.func45, Tryd.ntmps45
  go_wp2
  go_ret
  refine ⟨?_, rfl⟩
  rw [← h]
  rfl
def uhI (c : UInt8) : Int := match uh c with | some a => a | none => -1
set_option maxHeartbeats 1000000 in
theorem unhex_any (c : UInt8) (w : World) :
    Calls Tryd.prog 47 #[.int .u8 c.toNat] w fun e w' => e = .returned (.int .i64 (uhI c)) ∧ w' = w := by
  have hc := c.toNat_lt
  have hA : Hid (uhI c = if 48 ≤ c.toNat ∧ c.toNat ≤ 57 then (c.toNat : Int) - 48 else if 97 ≤ c.toNat ∧ c.toNat ≤ 102 then (c.toNat : Int) - 87 else -1) := by
    show _ = _
    unfold uhI uh
    by_cases h1 : 48 ≤ c.toNat ∧ c.toNat ≤ 57
    · rw [if_pos h1, if_pos h1]; show ((c.toNat - 48 : Nat) : Int) = _; omega
    · rw [if_neg h1, if_neg h1]
      by_cases h2 : 97 ≤ c.toNat ∧ c.toNat ≤ 102
      · rw [if_pos h2, if_pos h2]; show ((c.toNat - 87 : Nat) : Int) = _; omega
      · rw [if_neg h2, if_neg h2]
  by_cases h1 : 48 ≤ c.toNat ∧ c.toNat ≤ 57
  · have hB : Hid (uhI c = (c.toNat : Int) - 48) := by show _ = _; rw [hA.out, if_pos h1]
    obtain ⟨a, b⟩ := h1
    go_enter Tryd.func47, Tryd.ntmps47
    go_wp2
    go_ret
    exact ⟨ret_int (by rw [hB.out]), rfl⟩
  · by_cases h2 : 97 ≤ c.toNat ∧ c.toNat ≤ 102
    · have hB : Hid (uhI c = (c.toNat : Int) - 97 + 10) := by show _ = _; rw [hA.out, if_neg h1, if_pos h2]; omega
      obtain ⟨a, b⟩ := h2
      have h1' : ¬ c.toNat ≤ 57 := by omega
      clear h1
      go_enter Tryd.func47, Tryd.ntmps47
      go_wp2
      go_ret
      exact ⟨ret_int (by rw [hB.out]), rfl⟩
    · have hB : Hid (uhI c = -1) := by show _ = _; rw [hA.out, if_neg h1, if_neg h2]
      have h1' : c.toNat < 48 ∨ 57 < c.toNat := by omega
      have h2' : c.toNat < 97 ∨ 102 < c.toNat := by omega
      clear h1 h2
      go_enter Tryd.func47, Tryd.ntmps47
      rcases h1' with h1 | h1 <;> rcases h2' with h2 | h2
      all_goals
        go_wp2
        all_goals
          go_ret
          exact ⟨ret_int (by rw [hB.out]), rfl⟩
theorem size_list (s : ByteArray) : s.data.toList.length = s.size := by rw [Array.length_toList]; rfl
theorem get_list (s : ByteArray) (k : Nat) (h : k < s.size) : s.data.toList[k]? = some s[k] := by
  rw [Array.getElem?_toList]; exact Array.getElem?_eq_getElem h
theorem ne8 {c d : UInt8} (h : ¬ (c.toNat : Int) = d.toNat) : c ≠ d := fun e => h (by rw [e])
set_option maxHeartbeats 1000000 in
theorem at_any (s : ByteArray) (w : World) (hs : s.size ≤ 1000000) :
    Calls Tryd.prog 37 #[.string s] w fun e w' => e = .returned (.int .i64 (Lib.index s.data.toList [64])) ∧ w' = w := by
  go_enter Tryd.func37, Tryd.ntmps37
  go_wp2
  go_loop [3] (fun i => ∃ k : Nat, k ≤ s.size ∧ i = .int .i64 k ∧ Hid (Lib.NoOcc s.data.toList [64] k)) (fun i => s.size - (intOf i).toNat)
  case atStart => exact ⟨0, by omega, rfl, Lib.NoOcc.zero _ _⟩
  case round =>
    obtain ⟨k, hk, rfl, hno⟩ := hrel
    by_cases hlt : k < s.size
    · have hg : Hid (s.data.toList[k]? = some s[k]) := get_list s k hlt
      by_cases hc : s[k] = 64
      · have hi : Hid (Lib.index s.data.toList [64] = k) := index_at hno.out (by rw [hg.out, hc])
        have hc' : (s[k].toNat : Int) = 64 := by rw [hc]; rfl
        clear hc
        go_wp2
        go_ret
        exact ⟨ret_int (by rw [hi.out]), rfl⟩
      · have hc' : ¬ (s[k].toNat : Int) = 64 := fun e => hc (UInt8.toNat_inj.1 (by simp; omega))
        have hn : Hid (Lib.NoOcc s.data.toList [64] (k + 1)) := noOcc_next hno.out hg.out hc
        clear hc
        go_wp2
        exact ⟨⟨k + 1, by omega, by go_num, hn⟩, by simp [intOf]; omega⟩
    · obtain rfl : k = s.size := by omega
      have hi : Hid (Lib.index s.data.toList [64] = -1) := index_no (by rw [size_list]; exact hno.out)
      go_wp2
      go_ret
      exact ⟨ret_int (by rw [hi.out]), rfl⟩
end Go.Proofs.YtimmieelpaoncaaDoor
