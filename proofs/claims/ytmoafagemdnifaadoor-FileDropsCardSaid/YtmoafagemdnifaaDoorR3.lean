/- Contracts of the reference's Trim, key, section. -/
import Derived.Test.YtmoafagemdnifaaDoorR1
import Derived.Test.YtmoafagemdnifaaDoorLN7
namespace Go.Proofs.YtmoafagemdnifaaDoor
open Go.RowKit Lin
theorem trim_cut (s : ByteArray) {i k : Nat} (h : trim s.data.toList = (s.data.toList.take k).drop i) : s.extract i k = ⟨(trim s.data.toList).toArray⟩ := by
  rw [h, List.drop_take, ← Lib.extract_data, Lib.mk_data]
set_option maxHeartbeats 4000000 in
theorem rtrim_any (s : ByteArray) (w : World) (hs : s.size ≤ 1000000) :
    Calls Tryd.prog 38 #[.string s] w fun e w' => e = .returned (.string ⟨(trim s.data.toList).toArray⟩) ∧ w' = w := by
  go_enter Tryd.func38, Tryd.ntmps38
  go_wp2_with fail
  go_loop [3] (fun i => ∃ m : Nat, m ≤ s.size ∧ i = .int .i64 m ∧ Hid (∀ (j : Nat) b, j < m → s.data.toList[j]? = some b → bl b = true)) (fun i => s.size - (intOf i).toNat)
  case atStart => exact ⟨0, by omega, rfl, fun j b h => absurd h (Nat.not_lt_zero _)⟩
  case round =>
    obtain ⟨m, hm, rfl, hA⟩ := hrel
    by_cases hlt : m < s.size
    · have hg := get_list s m hlt
      obtain ⟨c, hc⟩ : ∃ c, s[m] = c := ⟨_, rfl⟩
      rw [hc] at hg
      have hmI : (m : Int) < (s.size : Int) := by omega
      have hbl := fun w => blank_any c w
      cases hcb : bl c
      · rw [hcb] at hbl
        have hbl' : Hid (∀ w, Calls Tryd.prog 59 #[.int .u8 c.toNat] w fun e w' => e = .returned (.bool false) ∧ w' = w) := hbl
        have hst : Hid (∀ b, s.data.toList[m]? = some b → bl b = false) := fun b hb => by rw [hg] at hb; cases hb; exact hcb
        clear hbl hcb hg
        go_wp2_with (go_at_call 59; refine (hbl'.out _).mono ?_; rintro e w' ⟨rfl, rfl⟩)
        clear hmI hbl' hc
        go_loop [4] (fun i => ∃ k : Nat, m ≤ k ∧ k ≤ s.size ∧ i = .int .i64 k ∧ Hid (∀ (j : Nat) b, k ≤ j → s.data.toList[j]? = some b → bl b = true)) (fun i => (intOf i).toNat)
        case atStart => exact ⟨s.size, by omega, by omega, rfl, fun j b h hb => absurd (List.getElem?_eq_some_iff.1 hb).1 (by rw [size_list]; omega)⟩
        case round =>
          obtain ⟨k, hmk, hk, rfl, hB⟩ := hrel
          by_cases hmk2 : m < k
          · obtain ⟨j, rfl⟩ : ∃ j, k = j + 1 := ⟨k - 1, by omega⟩
            have hjs : j < s.size := by omega
            have hg := get_list s j hjs
            obtain ⟨d, hd⟩ : ∃ d, s[j] = d := ⟨_, rfl⟩
            rw [hd] at hg
            have hjI : (m : Int) < (j : Int) + 1 := by omega
            have hjs' : (j : Int) < (s.size : Int) := by omega
            have hbl := fun w => blank_any d w
            cases hdb : bl d
            · rw [hdb] at hbl
              have hbl' : Hid (∀ w, Calls Tryd.prog 59 #[.int .u8 d.toNat] w fun e w' => e = .returned (.bool false) ∧ w' = w) := hbl
              have hT : Hid (s.extract m (j + 1) = ⟨(trim s.data.toList).toArray⟩) := trim_cut s (trim_at hmk (by rw [size_list]; exact hk) hA.out (fun b hb _ => hst.out b hb) hB.out (fun b _ hb => by rw [Nat.add_sub_cancel, hg] at hb; cases hb; exact hdb))
              have x1 : (m : Int) ≤ (j : Int) + 1 := by omega
              have x2 : (j : Int) + 1 ≤ (s.size : Int) := by omega
              clear hbl hdb hg
              go_wp2_with (go_at_call 59; refine (hbl'.out _).mono ?_; rintro e w' ⟨rfl, rfl⟩)
              go_ret
              exact ⟨ret_str (by rw [← hT.out]; try rfl), rfl⟩
            · rw [hdb] at hbl
              have hbl' : Hid (∀ w, Calls Tryd.prog 59 #[.int .u8 d.toNat] w fun e w' => e = .returned (.bool true) ∧ w' = w) := hbl
              have hB2 : Hid (∀ (i : Nat) b, j ≤ i → s.data.toList[i]? = some b → bl b = true) := fun i b h hb => by
                rcases Nat.lt_or_ge j i with h' | h'
                · exact hB.out i b h' hb
                · obtain rfl : i = j := by omega
                  rw [hg] at hb; cases hb; exact hdb
              clear hbl hdb hg
              go_wp2_with (go_at_call 59; refine (hbl'.out _).mono ?_; rintro e w' ⟨rfl, rfl⟩)
              exact ⟨⟨j, by omega, by omega, by go_num, hB2⟩, by simp [intOf]⟩
          · obtain rfl : m = k := by omega
            have hmI : ¬ ((m : Int) < (m : Int)) := by omega
            have x2 : (m : Int) ≤ (s.size : Int) := by omega
            have hT : Hid (s.extract m m = ⟨(trim s.data.toList).toArray⟩) := trim_cut s (trim_at hmk (by rw [size_list]; exact hk) hA.out (fun b hb _ => hst.out b hb) hB.out (fun b h _ => absurd h hmk2))
            go_wp2_with fail
            go_ret
            exact ⟨ret_str (by rw [← hT.out]; simp), rfl⟩
      · rw [hcb] at hbl
        have hbl' : Hid (∀ w, Calls Tryd.prog 59 #[.int .u8 c.toNat] w fun e w' => e = .returned (.bool true) ∧ w' = w) := hbl
        have hA2 : Hid (∀ (j : Nat) b, j < m + 1 → s.data.toList[j]? = some b → bl b = true) := fun i b h hb => by
          rcases Nat.lt_or_ge i m with h' | h'
          · exact hA.out i b h' hb
          · obtain rfl : i = m := by omega
            rw [hg] at hb; cases hb; exact hcb
        clear hbl hcb hg
        go_wp2_with (go_at_call 59; refine (hbl'.out _).mono ?_; rintro e w' ⟨rfl, rfl⟩)
        exact ⟨⟨m + 1, by omega, by go_num, hA2⟩, by simp [intOf]; omega⟩
    · obtain rfl : m = s.size := by omega
      have hmI : ¬ ((s.size : Int) < (s.size : Int)) := by omega
      have hT : Hid (s.extract s.size s.size = ⟨(trim s.data.toList).toArray⟩) := trim_cut s (trim_at (Nat.le_refl _) (by rw [size_list]; exact hm) hA.out (fun b _ h => absurd h (Nat.lt_irrefl _)) (fun j b h hb => absurd (List.getElem?_eq_some_iff.1 hb).1 (by rw [size_list]; omega)) (fun b h _ => absurd h (Nat.lt_irrefl _)))
      go_wp2_with fail
      go_loop [4] (fun i => i = .int .i64 s.size) (fun _ => 0)
      case atStart => rfl
      case round =>
        obtain rfl := hrel
        go_wp2_with fail
        go_ret
        exact ⟨ret_str (by rw [← hT.out]; simp), rfl⟩
theorem al_no {c : UInt8} (h : al c = false) : (c.toNat < 48 ∨ (57 < c.toNat ∧ c.toNat < 65)) ∨ (90 < c.toNat ∧ c.toNat < 97) ∨ 122 < c.toNat := by
  unfold al at h
  simp only [decide_eq_false_iff_not] at h
  omega
theorem al_yes {c : UInt8} (h : al c = true) : (48 ≤ c.toNat ∧ c.toNat ≤ 57) ∨ (65 ≤ c.toNat ∧ c.toNat ≤ 90) ∨ (97 ≤ c.toNat ∧ c.toNat ≤ 122) := by
  unfold al at h
  simp only [decide_eq_true_eq] at h
  omega
theorem dT {p : Prop} [Decidable p] (h : p) : decide p = true := decide_eq_true h
theorem dF {p : Prop} [Decidable p] (h : ¬ p) : decide p = false := decide_eq_false h
set_option maxHeartbeats 4000000 in
theorem rkey_any (s : ByteArray) (w : World) (hs : s.size ≤ 1000000) :
    Calls Tryd.prog 61 #[.string s] w fun e w' => e = .returned (.bool (made al s.data.toList)) ∧ w' = w := by
  go_enter Tryd.func61, Tryd.ntmps61
  go_wp2_with fail
  go_loop [3] (fun i => ∃ k : Nat, k ≤ s.size ∧ i = .int .i64 k ∧ Hid ((s.data.toList.take k).all al = true)) (fun i => s.size - (intOf i).toNat)
  case atStart => exact ⟨0, by omega, rfl, rfl⟩
  case round =>
    obtain ⟨k, hk, rfl, hno⟩ := hrel
    by_cases hlt : k < s.size
    · have htk : Hid (s.data.toList.take (k + 1) = s.data.toList.take k ++ [s[k]]) := by
        show _ = _
        rw [List.take_add_one, get_list s k hlt]; rfl
      have hmem : Hid (s[k] ∈ s.data.toList) := List.mem_of_getElem? (get_list s k hlt)
      obtain ⟨c, hc⟩ : ∃ c, s[k] = c := ⟨_, rfl⟩
      rw [hc] at htk hmem
      have hkI : (k : Int) < (s.size : Int) := by omega
      cases hsp : al c
      · have hF : Hid (made al s.data.toList = false) := made_no hmem.out hsp
        rcases al_no hsp with (h | ⟨h1, h2⟩) | ⟨h1, h2⟩ | h
        · have n1 : (c.toNat : Int) < 97 := by omega
          have n2 : (c.toNat : Int) < 65 := by omega
          have n3 : (c.toNat : Int) < 48 := by omega
          clear hsp h
          go_wp2_with fail
          go_ret
          exact ⟨ret_bool (by rw [hF.out]), rfl⟩
        · have n1 : (c.toNat : Int) < 97 := by omega
          have n2 : (c.toNat : Int) < 65 := by omega
          have n3 : ¬ (c.toNat : Int) < 48 := by omega
          have n4 : (57 : Int) < (c.toNat : Int) := by omega
          clear hsp h1 h2
          go_wp2_with fail
          go_ret
          exact ⟨ret_bool (by rw [hF.out]), rfl⟩
        · have n1 : (c.toNat : Int) < 97 := by omega
          have n2 : ¬ (c.toNat : Int) < 65 := by omega
          have n5 : (90 : Int) < (c.toNat : Int) := by omega
          have n3 : ¬ (c.toNat : Int) < 48 := by omega
          have n4 : (57 : Int) < (c.toNat : Int) := by omega
          clear hsp h1 h2
          go_wp2_with fail
          go_ret
          exact ⟨ret_bool (by rw [hF.out]), rfl⟩
        · have n1 : ¬ (c.toNat : Int) < 97 := by omega
          have n6 : (122 : Int) < (c.toNat : Int) := by omega
          have n2 : ¬ (c.toNat : Int) < 65 := by omega
          have n5 : (90 : Int) < (c.toNat : Int) := by omega
          have n3 : ¬ (c.toNat : Int) < 48 := by omega
          have n4 : (57 : Int) < (c.toNat : Int) := by omega
          clear hsp h
          go_wp2_with fail
          go_ret
          exact ⟨ret_bool (by rw [hF.out]), rfl⟩
      · have hn : Hid ((s.data.toList.take (k + 1)).all al = true) := by
          show _ = _
          rw [htk.out, List.all_append, hno.out]; simp [hsp]
        rcases al_yes hsp with ⟨h1, h2⟩ | ⟨h1, h2⟩ | ⟨h1, h2⟩
        · have n1 : (c.toNat : Int) < 97 := by omega
          have n2 : (c.toNat : Int) < 65 := by omega
          have n3 : ¬ (c.toNat : Int) < 48 := by omega
          have n4 : ¬ (57 : Int) < (c.toNat : Int) := by omega
          clear hsp h1 h2
          go_wp2_with fail
          exact ⟨⟨k + 1, by omega, by go_num, hn⟩, by simp [intOf]; omega⟩
        · have n1 : (c.toNat : Int) < 97 := by omega
          have n2 : ¬ (c.toNat : Int) < 65 := by omega
          have n5 : ¬ (90 : Int) < (c.toNat : Int) := by omega
          clear hsp h1 h2
          go_wp2_with fail
          exact ⟨⟨k + 1, by omega, by go_num, hn⟩, by simp [intOf]; omega⟩
        · have n1 : ¬ (c.toNat : Int) < 97 := by omega
          have n6 : ¬ (122 : Int) < (c.toNat : Int) := by omega
          clear hsp h1 h2
          go_wp2_with fail
          exact ⟨⟨k + 1, by omega, by go_num, hn⟩, by simp [intOf]; omega⟩
    · obtain rfl : k = s.size := by omega
      have hT : Hid (made al s.data.toList = decide ((0 : Int) < (s.size : Int))) := by
        show _ = _
        have := hno.out
        rw [List.take_of_length_le (by rw [size_list]; omega)] at this
        rw [made_all this, ← size_list]; cases s.data.toList <;> simp <;> omega
      go_wp2_with fail
      go_ret
      exact ⟨ret_bool (by rw [hT.out]; simp), rfl⟩
theorem sc_no {c : UInt8} (h : sc c = false) : c.toNat < 32 ∨ c = 91 ∨ c = 93 := by
  unfold sc at h
  simp only [decide_eq_false_iff_not] at h
  by_cases h1 : c.toNat = 91
  · exact .inr (.inl (UInt8.toNat_inj.1 h1))
  · by_cases h2 : c.toNat = 93
    · exact .inr (.inr (UInt8.toNat_inj.1 h2))
    · left; omega
theorem sc_yes {c : UInt8} (h : sc c = true) : 32 ≤ c.toNat ∧ c ≠ 91 ∧ c ≠ 93 := by
  unfold sc at h
  simp only [decide_eq_true_eq] at h
  exact ⟨h.1, fun e => h.2.1 (by rw [e]; rfl), fun e => h.2.2 (by rw [e]; rfl)⟩
set_option maxHeartbeats 4000000 in
theorem rsection_any (s : ByteArray) (w : World) (hs : s.size ≤ 1000000) :
    Calls Tryd.prog 60 #[.string s] w fun e w' => e = .returned (.bool (made sc s.data.toList)) ∧ w' = w := by
  go_enter Tryd.func60, Tryd.ntmps60
  go_wp2_with fail
  go_loop [3] (fun i => ∃ k : Nat, k ≤ s.size ∧ i = .int .i64 k ∧ Hid ((s.data.toList.take k).all sc = true)) (fun i => s.size - (intOf i).toNat)
  case atStart => exact ⟨0, by omega, rfl, rfl⟩
  case round =>
    obtain ⟨k, hk, rfl, hno⟩ := hrel
    by_cases hlt : k < s.size
    · have htk : Hid (s.data.toList.take (k + 1) = s.data.toList.take k ++ [s[k]]) := by
        show _ = _
        rw [List.take_add_one, get_list s k hlt]; rfl
      have hmem : Hid (s[k] ∈ s.data.toList) := List.mem_of_getElem? (get_list s k hlt)
      obtain ⟨c, hc⟩ : ∃ c, s[k] = c := ⟨_, rfl⟩
      rw [hc] at htk hmem
      have hkI : (k : Int) < (s.size : Int) := by omega
      cases hsp : sc c
      · have hF : Hid (made sc s.data.toList = false) := made_no hmem.out hsp
        have hh := sc_no hsp
        by_cases h1 : c = 91
        · have n1 : (c.toNat : Int) = 91 := by rw [h1]; rfl
          clear hsp hh h1
          go_wp2_with fail
          go_ret
          exact ⟨ret_bool (by rw [hF.out]), rfl⟩
        have n1 : ((c.toNat : Int) == 91) = false := beq8 c 91 h1
        by_cases h2 : c = 93
        · have n2 : (c.toNat : Int) = 93 := by rw [h2]; rfl
          clear hsp hh h1 h2 n1
          go_wp2_with fail
          go_ret
          exact ⟨ret_bool (by rw [hF.out]), rfl⟩
        have n2 : ((c.toNat : Int) == 93) = false := beq8 c 93 h2
        have h3 : c.toNat < 32 := by
          rcases hh with h | h | h
          · exact h
          · exact absurd h h1
          · exact absurd h h2
        have n3 : (c.toNat : Int) < 32 := by omega
        clear hsp hh h1 h2 h3
        go_wp2_with fail
        go_ret
        exact ⟨ret_bool (by rw [hF.out]), rfl⟩
      · have hn : Hid ((s.data.toList.take (k + 1)).all sc = true) := by
          show _ = _
          rw [htk.out, List.all_append, hno.out]; simp [hsp]
        obtain ⟨h1, h2, h3⟩ := sc_yes hsp
        have n1 : ((c.toNat : Int) == 91) = false := beq8 c 91 h2
        have n2 : ((c.toNat : Int) == 93) = false := beq8 c 93 h3
        have n3 : ¬ (c.toNat : Int) < 32 := by omega
        clear hsp h1 h2 h3
        go_wp2_with fail
        exact ⟨⟨k + 1, by omega, by go_num, hn⟩, by simp [intOf]; omega⟩
    · obtain rfl : k = s.size := by omega
      have hT : Hid (made sc s.data.toList = decide ((0 : Int) < (s.size : Int))) := by
        show _ = _
        have := hno.out
        rw [List.take_of_length_le (by rw [size_list]; omega)] at this
        rw [made_all this, ← size_list]; cases s.data.toList <;> simp <;> omega
      go_wp2_with fail
      go_ret
      exact ⟨ret_bool (by rw [hT.out]; simp), rfl⟩
end Go.Proofs.YtmoafagemdnifaaDoor
