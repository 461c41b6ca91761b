/- The contract of the statements' plain; names of plain parts. -/
import Derived.Test.YtimmieelpaoncaaDoorK1
import Derived.Test.YtimmieelpaoncaaDoorNM3
namespace Go.Proofs.YtimmieelpaoncaaDoor
open Go.RowKit Nam
def plB (c : UInt8) : Bool := decide ((97 ≤ c.toNat ∧ c.toNat ≤ 122) ∨ (48 ≤ c.toNat ∧ c.toNat ≤ 57) ∨ c.toNat = 45 ∨ c.toNat = 95 ∨ c.toNat = 58)
def plL (l : L) : Bool := l.all plB
theorem plB_sp : ∀ c : UInt8, plB c = true → sp c = true := by
  refine all8 _ ?_
  decide +kernel
theorem plL_sp {l : L} (h : plL l = true) : l.all sp = true := List.all_eq_true.2 (fun c hc => plB_sp c (List.all_eq_true.1 h c hc))
set_option maxHeartbeats 2000000 in
theorem plain_any (s : ByteArray) (w : World) (hs : s.size ≤ 1000000) :
    Calls Tryd.prog 34 #[.string s] w fun e w' => e = .returned (.bool (plL s.data.toList)) ∧ w' = w := by
  go_enter Tryd.func34, Tryd.ntmps34
  go_wp2_with fail
  go_loop [3] (fun i => ∃ k : Nat, k ≤ s.size ∧ i = .int .i64 k ∧ Hid (plL (s.data.toList.take k) = true)) (fun i => s.size - (intOf i).toNat)
  case atStart => exact ⟨0, by omega, rfl, rfl⟩
  case round =>
    obtain ⟨k, hk, rfl, hno⟩ := hrel
    by_cases hlt : k < s.size
    · have htk : Hid (s.data.toList.take (k + 1) = s.data.toList.take k ++ [s[k]]) := by
        show _ = _
        rw [List.take_add_one, get_list s k hlt]; rfl
      have hmem : Hid (s[k] ∈ s.data.toList) := List.mem_of_getElem? (get_list s k hlt)
      obtain ⟨c, hc⟩ : ∃ c, s[k] = c := ⟨_, rfl⟩
      rw [hc] at htk hmem
      have hcl := c.toNat_lt
      cases hp : plB c
      · have hF : Hid (plL s.data.toList = false) := by
          show _ = _
          unfold plL
          rw [← Bool.not_eq_true, List.all_eq_true]
          intro h
          rw [h c hmem.out] at hp; cases hp
        have hq : ¬ ((97 ≤ c.toNat ∧ c.toNat ≤ 122) ∨ (48 ≤ c.toNat ∧ c.toNat ≤ 57) ∨ c.toNat = 45 ∨ c.toNat = 95 ∨ c.toNat = 58) := of_decide_eq_false hp
        have q1 : c.toNat < 97 ∨ 122 < c.toNat := by omega
        have q2 : c.toNat < 48 ∨ 57 < c.toNat := by omega
        have b1 : ((c.toNat : Int) != 45) = true := by simp; omega
        have b2 : ((c.toNat : Int) != 95) = true := by simp; omega
        have b3 : ((c.toNat : Int) != 58) = true := by simp; omega
        clear hp hq
        rcases q1 with q1 | q1 <;> rcases q2 with q2 | q2
        all_goals
          go_wp2_with fail
          all_goals first
            | (exfalso; omega)
            | (go_ret; exact ⟨ret_bool (by rw [hF.out]), rfl⟩)
      · have hn : Hid (plL (s.data.toList.take (k + 1)) = true) := by
          show _ = _
          have := hno.out
          unfold plL at this ⊢
          rw [htk.out, List.all_append, this]; simp [hp]
        have hq : (97 ≤ c.toNat ∧ c.toNat ≤ 122) ∨ (48 ≤ c.toNat ∧ c.toNat ≤ 57) ∨ c.toNat = 45 ∨ c.toNat = 95 ∨ c.toNat = 58 := of_decide_eq_true hp
        clear hp
        rcases hq with ⟨q1, q2⟩ | ⟨q1, q2⟩ | q | q | q
        · go_wp2_with fail
          exact ⟨⟨k + 1, by omega, by go_num, hn⟩, by simp [intOf]; omega⟩
        · go_wp2_with fail
          exact ⟨⟨k + 1, by omega, by go_num, hn⟩, by simp [intOf]; omega⟩
        all_goals
          go_wp2_with fail
          exact ⟨⟨k + 1, by omega, by go_num, hn⟩, by simp [intOf]; omega⟩
    · obtain rfl : k = s.size := by omega
      have hT : Hid (plL s.data.toList = true) := by
        have := hno.out
        rwa [List.take_of_length_le (by rw [size_list]; omega)] at this
      go_wp2_with fail
      go_ret
      exact ⟨ret_bool (by rw [hT.out]), rfl⟩
theorem cutN_plain {p : L} (k : Nat) (hk : k < 6) (h0 : p ≠ []) (hp : plL p = true) (hl : (p ++ endk k).length ≤ 60) : cutN (p ++ endk k) = some (p, [], false, k) := by
  rw [cutN_end p k hk hl, stm_plain h0 (plL_sp hp)]
theorem mk_eq (p i : L) (k : Nat) : mk p i k = (p ++ 64 :: i) ++ endk k := by simp [mk]
theorem cutN_mk {p i : L} (k : Nat) (hk : k < 6) (h0 : p ≠ []) (hp : plL p = true) (hi : plL i = true) (hl : (mk p i k).length ≤ 60) : cutN (mk p i k) = some (p, i, true, k) := by
  rw [mk_eq] at hl ⊢
  rw [cutN_end _ k hk hl, stm_at h0 (plL_sp hp) (plL_sp hi)]
end Go.Proofs.YtimmieelpaoncaaDoor
