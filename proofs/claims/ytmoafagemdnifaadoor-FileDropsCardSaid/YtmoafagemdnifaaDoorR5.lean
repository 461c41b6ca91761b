/- The contract of the reference's line: settings, and all. -/
import Derived.Test.YtmoafagemdnifaaDoorR4
namespace Go.Proofs.YtmoafagemdnifaaDoor
open Go.RowKit Lin
theorem split_at {l : L} {m : Nat} {c : UInt8} (h : l[m]? = some c) : l = l.take m ++ c :: l.drop (m + 1) := by
  obtain ⟨hl, hc⟩ := List.getElem?_eq_some_iff.1 h
  have := List.drop_eq_getElem_cons hl
  rw [hc] at this
  rw [← this, List.take_append_drop]
set_option maxRecDepth 100000 in
set_option maxHeartbeats 8000000 in
theorem rline_set (s T : ByteArray) (n : Nat) (w : World) (hs : s.size ≤ 1000000) (hT : trim s.data.toList = T.data.toList) (hTz : T.size ≤ 1000000)
    (hB : brk T.data.toList = false) (hq : T.size < 2 ∨ (∃ c, 2 ≤ T.size ∧ T.data.toList[0]? = some c ∧ c ≠ 91) ∨ ∃ N c, T.size = N + 1 ∧ 1 ≤ N ∧ T.data.toList[0]? = some 91 ∧ T.data.toList[N]? = some c ∧ c ≠ 93) :
    Calls Tryd.prog 39 #[.string s, .int .i64 n] w (RlP (prs s.data.toList) n w) := by
  have htr := rtrim_any s
  rw [hT, Lib.mk_data] at htr
  have htr' : Hid (∀ w, Calls Tryd.prog 38 #[.string s] w fun e w' => e = .returned (.string T) ∧ w' = w) := fun w => htr w hs
  rw [← hT] at hB
  have hNo : Hid ((∀ x ∈ T.data.toList, x ≠ 61) → prs s.data.toList = none) := fun h => prs_no hB (by rw [hT]; exact h)
  have hYes : Hid (∀ m, T.data.toList[m]? = some 61 → (∀ x ∈ T.data.toList.take m, x ≠ 61) → prs s.data.toList = if made al (trim (T.data.toList.take m)) then some (2, trim (T.data.toList.take m), trim (T.data.toList.drop (m + 1))) else none) := fun m hm h => prs_eq hB (by rw [hT]; exact split_at hm) h
  have hb9 : Hid (∀ a b c d, Below w.heap.size w (w.alloc (.cells #[a, b, c, d] 60))) := fun a b c d => (Below.refl _ _).alloc (Nat.le_refl _) _
  have hq' : ¬ ((2 : Int) ≤ (T.size : Int)) ∨ (∃ c : UInt8, ∃ h0 : 0 < T.size, (2 : Int) ≤ (T.size : Int) ∧ T[0] = c ∧ ((c.toNat : Int) == 91) = false) ∨ ∃ (N : Nat) (c : UInt8), ∃ h0 : 0 < T.size, ∃ hN : N < T.size, (T.size : Int) = (N : Int) + 1 ∧ 1 ≤ (N : Int) ∧ T[0] = 91 ∧ T[N] = c ∧ ((c.toNat : Int) == 93) = false := by
    rcases hq with h | ⟨c, h2, hc, hne⟩ | ⟨N, c, hN, h1, hc0, hc, hne⟩
    · left; omega
    · right; left
      refine ⟨c, by omega, by omega, ?_, beq8 c 91 hne⟩
      have := get_list T 0 (by omega)
      rw [hc] at this; exact (Option.some.inj this).symm
    · right; right
      refine ⟨N, c, by omega, by omega, by omega, by omega, ?_, ?_, beq8 c 93 hne⟩
      · have := get_list T 0 (by omega)
        rw [hc0] at this; exact (Option.some.inj this).symm
      · have := get_list T N (by omega)
        rw [hc] at this; exact (Option.some.inj this).symm
  clear htr hT hB hq
  rcases hq' with h2I | ⟨c1, h0, h2I, hc1, hn1⟩ | ⟨N, c1, h0, hNl, hNI, h1N, hc0, hc1, hn1⟩
  all_goals
    go_enter Tryd.func39, Tryd.ntmps39
    go_wp2_with fail
    refine (htr'.out _).mono ?_
    rintro e w1 ⟨rfl, rfl⟩
    go_wp2_with fail
    go_loop [8] (fun i => ∃ m : Nat, m ≤ T.size ∧ i = .int .i64 m ∧ Hid (∀ x ∈ T.data.toList.take m, x ≠ 61)) (fun i => T.size - (intOf i).toNat)
    case atStart => exact ⟨0, by omega, rfl, fun x hx => by simp at hx⟩
    case round =>
      obtain ⟨m, hm, rfl, hno⟩ := hrel
      by_cases hlt : m < T.size
      · have hg := get_list T m hlt
        have htk : Hid (T.data.toList.take (m + 1) = T.data.toList.take m ++ [T[m]]) := by
          show _ = _
          rw [List.take_add_one, hg]; rfl
        obtain ⟨c, hc⟩ : ∃ c, T[m] = c := ⟨_, rfl⟩
        rw [hc] at hg htk
        have hmI : (m : Int) < (T.size : Int) := by omega
        by_cases h61 : c = 61
        · have hcI : (c.toNat : Int) = 61 := by rw [h61]; rfl
          rw [h61] at hg
          have hP := hYes.out m hg hno.out
          obtain ⟨A, hA⟩ : ∃ A, T.extract 0 m = A := ⟨_, rfl⟩
          obtain ⟨B, hB⟩ : ∃ B, T.extract (m + 1) T.size = B := ⟨_, rfl⟩
          have hAl : A.data.toList = T.data.toList.take m := by rw [← hA, Lib.extract_data]; simp
          have hBl : B.data.toList = T.data.toList.drop (m + 1) := by rw [← hB, Lib.extract_data, List.take_of_length_le]; rw [List.length_drop, size_list]; omega
          have hAz : A.size ≤ 1000000 := by rw [← size_list, hAl, List.length_take, size_list]; omega
          have hBz : B.size ≤ 1000000 := by rw [← size_list, hBl, List.length_drop, size_list]; omega
          rw [← hAl, ← hBl] at hP
          have hta := fun w => rtrim_any A w hAz
          have htb := fun w => rtrim_any B w hBz
          have hkz := trim_len A.data.toList
          rw [size_list] at hkz
          revert hP hta htb hkz
          generalize trim A.data.toList = ka
          generalize trim B.data.toList = vb
          intro hP hta htb hkz
          obtain ⟨K, rfl, hKz, hKe⟩ := letters ka
          obtain ⟨V, rfl, _, hVe⟩ := letters vb
          rw [hKe] at hta
          rw [hVe] at htb
          have hky := fun w => rkey_any K w (by rw [size_list] at hkz; omega)
          have hta' : Hid (∀ w, Calls Tryd.prog 38 #[.string A] w fun e w' => e = .returned (.string K) ∧ w' = w) := hta
          have htb' : Hid (∀ w, Calls Tryd.prog 38 #[.string B] w fun e w' => e = .returned (.string V) ∧ w' = w) := htb
          have hPH : Hid (prs s.data.toList = if made al K.data.toList then some (2, K.data.toList, V.data.toList) else none) := hP
          have x1 : (m : Int) ≤ (T.size : Int) := by omega
          have x2 : (m : Int) + 1 ≤ (T.size : Int) := by omega
          clear hta htb hP hKe hVe hKz hkz hAl hBl hAz hBz hg h61 htk hno
          cases hmd : made al K.data.toList
          · rw [hmd] at hky
            have hky' : Hid (∀ w, Calls Tryd.prog 61 #[.string K] w fun e w' => e = .returned (.bool false) ∧ w' = w) := hky
            have hR : Hid (prs s.data.toList = none) := by show _ = _; rw [hPH.out, hmd]; rfl
            have hb := hb9.out (.int .i64 2) (.string K) (.string V) (.int .i64 n)
            clear hky hmd hPH
            go_wp2_with (first | (go_at_call_of 38 (Value.string A); refine (hta'.out _).mono ?_; rintro e w' ⟨rfl, rfl⟩) | (go_at_call_of 38 (Value.string B); refine (htb'.out _).mono ?_; rintro e w' ⟨rfl, rfl⟩) | (go_at_call 61; refine (hky'.out _).mono ?_; rintro e w' ⟨rfl, rfl⟩))
            refine bodyPost_ret (v := .tuple #[.agg #[.int .i64 2, .string K, .string V, .int .i64 n], .bool false]) (by simp [results, Tryd.results39, go_sem]) rfl ?_
            exact RlP.no hR.out rfl hb
          · rw [hmd] at hky
            have hky' : Hid (∀ w, Calls Tryd.prog 61 #[.string K] w fun e w' => e = .returned (.bool true) ∧ w' = w) := hky
            have hR : Hid (prs s.data.toList = some (2, K.data.toList, V.data.toList)) := by show _ = _; rw [hPH.out, hmd]; rfl
            have hb := hb9.out (.int .i64 2) (.string K) (.string V) (.int .i64 n)
            clear hky hmd hPH
            go_wp2_with (first | (go_at_call_of 38 (Value.string A); refine (hta'.out _).mono ?_; rintro e w' ⟨rfl, rfl⟩) | (go_at_call_of 38 (Value.string B); refine (htb'.out _).mono ?_; rintro e w' ⟨rfl, rfl⟩) | (go_at_call 61; refine (hky'.out _).mono ?_; rintro e w' ⟨rfl, rfl⟩))
            refine bodyPost_ret (v := .tuple #[.agg #[.int .i64 2, .string K, .string V, .int .i64 n], .bool true]) (by simp [results, Tryd.results39, go_sem]) rfl ?_
            exact RlP.yes hR.out rfl hb
        · have hcI : ((c.toNat : Int) == 61) = false := beq8 c 61 h61
          have hno2 : Hid (∀ x ∈ T.data.toList.take (m + 1), x ≠ 61) := by
            show ∀ x ∈ _, _
            rw [htk.out]
            intro x hx
            rcases List.mem_append.1 hx with h | h
            · exact hno.out x h
            · have : x = c := by simpa using h
              rw [this]; exact h61
          clear hg h61 htk hno
          go_wp2_with fail
          exact ⟨⟨m + 1, by omega, by go_num, hno2⟩, by simp [intOf]; omega⟩
      · obtain rfl : m = T.size := by omega
        have hmI : ¬ ((T.size : Int) < (T.size : Int)) := by omega
        have hR : Hid (prs s.data.toList = none) := by
          refine hNo.out ?_
          have := hno.out
          rwa [List.take_of_length_le (by rw [size_list]; omega)] at this
        have hb := hb9.out (.int .i64 0) (.string ⟨#[]⟩) (.string ⟨#[]⟩) (.int .i64 0)
        go_wp2_with fail
        refine bodyPost_ret (v := .tuple #[.agg #[.int .i64 0, .string ⟨#[]⟩, .string ⟨#[]⟩, .int .i64 0], .bool false]) (by simp [results, Tryd.results39, go_sem]) rfl ?_
        exact RlP.no hR.out rfl hb
theorem rline_any (s : ByteArray) (n : Nat) (w : World) (hs : s.size ≤ 1000000) : Calls Tryd.prog 39 #[.string s, .int .i64 n] w (RlP (prs s.data.toList) n w) := by
  have hl := trim_len s.data.toList
  obtain ⟨T, hT, hTz, _⟩ := letters (trim s.data.toList)
  rw [size_list, ← hTz] at hl
  have hlen : T.data.toList.length = T.size := size_list T
  by_cases h2 : T.size < 2
  · exact rline_set s T n w hs hT.symm (by omega) (brk_no (.inl (by omega))) (.inl h2)
  obtain ⟨c0, hc0⟩ : ∃ c, T.data.toList[0]? = some c := ⟨_, List.getElem?_eq_getElem (by omega)⟩
  by_cases h0 : c0 = 91
  · obtain ⟨N, hN⟩ : ∃ N, T.size = N + 1 := ⟨T.size - 1, by omega⟩
    obtain ⟨cN, hcN⟩ : ∃ c, T.data.toList[N]? = some c := ⟨_, List.getElem?_eq_getElem (by omega)⟩
    by_cases h9 : cN = 93
    · exact rline_sec s T n N w hs hT.symm hN (by omega) (by omega) (by rw [hc0, h0]) (by rw [hcN, h9])
    · refine rline_set s T n w hs hT.symm (by omega) (brk_no (.inr (.inr ?_))) (.inr (.inr ⟨N, cN, hN, by omega, by rw [hc0, h0], hcN, h9⟩))
      rw [last_get _ N (by omega), hcN]
      exact fun e => h9 (Option.some.inj e)
  · refine rline_set s T n w hs hT.symm (by omega) (brk_no (.inr (.inl ?_))) (.inr (.inl ⟨c0, by omega, hc0, h0⟩))
    rw [List.head?_eq_getElem?, hc0]
    exact fun e => h0 (Option.some.inj e)
end Go.Proofs.YtmoafagemdnifaaDoor
