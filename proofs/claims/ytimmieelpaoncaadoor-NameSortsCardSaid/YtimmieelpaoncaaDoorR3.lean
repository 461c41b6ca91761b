/- Contracts of the reference's Kind, Is. -/
import Derived.Test.YtimmieelpaoncaaDoorR2
import Derived.Test.YtimmieelpaoncaaDoorA4
namespace Go.Proofs.YtimmieelpaoncaaDoor
open Go.RowKit Nam
def at64 (c : UInt8) : Bool := c == 64 || sp c
theorem kind_none {l : L} (h : fnd l 0 ends = none) : kindN l = 0 := by unfold kindN cutN; rw [h]; split <;> simp_all
theorem kind_long {l : L} (h : 60 < l.length) : kindN l = 0 := by unfold kindN cutN; rw [if_pos h]
theorem stm_k {st : L} {k : Nat} {p : Prt} (h : stm st k = some p) : p.2.2.2 = k := by
  unfold stm at h
  split at h
  · cases h
  · cases h; rfl
theorem kind_some {l st : L} {k : Nat} (hl : ¬ 60 < l.length) (h : fnd l 0 ends = some (st, k)) : kindN l = if stB st = true then k + 1 else 0 := by
  unfold kindN cutN
  rw [if_neg hl, h, ← stm_is st k]
  show (match stm st k with | some p => p.2.2.2 + 1 | none => 0) = _
  cases hs : stm st k with
  | none => rfl
  | some p => show p.2.2.2 + 1 = k + 1; rw [stm_k hs]
theorem stB_no {st : L} {c : UInt8} (hm : c ∈ st) (hc : at64 c = false) : stB st = false := by
  unfold stB
  have : st.all (fun c => c == 64 || sp c) = false := by
    rw [← Bool.not_eq_true, List.all_eq_true]
    intro h
    have := h c hm
    unfold at64 at hc
    rw [hc] at this; cases this
  rw [this]; simp
theorem stB_all {st : L} (h0 : st ≠ []) (h : ∀ c ∈ st, at64 c = true) : stB st = (decide (st.count 64 ≤ 1) && !(st.head? == some 64)) := by
  unfold stB
  have : st.all (fun c => c == 64 || sp c) = true := List.all_eq_true.2 h
  rw [this, show (st == []) = false by simpa using h0]; simp
theorem pt_none {l : L} (h : fnd l 0 ends = none) : pt l = ([], 0) := by unfold pt; rw [h]
theorem pt_some {l st : L} {k : Nat} (h : fnd l 0 ends = some (st, k)) : pt l = (st, (k : Int) + 1) := by unfold pt; rw [h]
/-- What 'parted' hands back, by letters. -/
theorem parted_none (s : ByteArray) (w : World) (hs : s.size ≤ 1000000) (h : fnd s.data.toList 0 ends = none) :
    Calls Tryd.prog 36 #[.string s] w fun e w' => e = .returned (.tuple #[.string ⟨#[]⟩, .int .i64 0]) ∧ Below w.heap.size w w' := by
  have := parted_any s w hs
  rw [pt_none h] at this
  exact this
theorem parted_some (s S : ByteArray) (k : Nat) (w : World) (hs : s.size ≤ 1000000) (h : fnd s.data.toList 0 ends = some (S.data.toList, k)) :
    Calls Tryd.prog 36 #[.string s] w fun e w' => e = .returned (.tuple #[.string S, .int .i64 ((k : Int) + 1)]) ∧ Below w.heap.size w w' := by
  have := parted_any s w hs
  rw [pt_some h] at this
  simp only [Lib.mk_data] at this
  exact this
theorem sp_five {c : UInt8} (ha : al c = false) (h : sp c = true) : (c.toNat : Int) = 58 ∨ (c.toNat : Int) = 45 ∨ (c.toNat : Int) = 95 ∨ (c.toNat : Int) = 46 ∨ (c.toNat : Int) = 92 := by
  rw [sp_is, ha] at h
  simp at h
  rcases h with (((h | h) | h) | h) | h
  all_goals (rw [h]; simp)
theorem sp_none {c : UInt8} (h : sp c = false) : al c = false ∧ ((c.toNat : Int) != 58) = true ∧ ((c.toNat : Int) != 45) = true ∧ ((c.toNat : Int) != 95) = true ∧ ((c.toNat : Int) != 46) = true ∧ ((c.toNat : Int) != 92) = true := by
  rw [sp_is] at h
  simp at h
  obtain ⟨⟨⟨⟨⟨h0, h1⟩, h2⟩, h3⟩, h4⟩, h5⟩ := h
  have cv : ∀ x : UInt8, c ≠ x → ((c.toNat : Int) != (x.toNat : Int)) = true := fun x hx => by
    simp only [bne_iff_ne, ne_eq]
    intro e
    exact hx (UInt8.toNat_inj.1 (by omega))
  exact ⟨h0, cv 58 h1, cv 45 h2, cv 95 h3, cv 46 h4, cv 92 h5⟩
theorem not64 {c : UInt8} (h : c ≠ 64) : ¬ (c.toNat : Int) = 64 := fun e => h (UInt8.toNat_inj.1 (by simp; omega))
set_option maxHeartbeats 4000000 in
theorem rkind_any (s : ByteArray) (w : World) (hs : s.size ≤ 1000000) :
    Calls Tryd.prog 15 #[.string s] w fun e w' => e = .returned (.int .i64 (kindN s.data.toList)) ∧ Below w.heap.size w w' := by
  cases hf : fnd s.data.toList 0 ends with
  | none =>
    have hK : Hid (kindN s.data.toList = 0) := kind_none hf
    have hp := parted_none s w hs hf
    go_enter Tryd.func15, Tryd.ntmps15
    go_wp2_with fail
    refine hp.mono ?_
    rintro e w1 ⟨rfl, hb⟩
    go_wp2_with fail
    go_ret
    exact ⟨by rw [hK.out]; rfl, hb⟩
  | some q =>
    obtain ⟨st, k⟩ := q
    obtain ⟨k6, hst, _⟩ := fnd_lt hf
    simp only at k6 hst
    have hsl : st.length ≤ 1000000 := by rw [hst, List.length_take, size_list]; omega
    clear hst
    obtain ⟨S, rfl, hSz, _⟩ := letters st
    have hSs : S.size ≤ 1000000 := by rw [hSz]; exact hsl
    clear hSz hsl
    have hp := parted_some s S k w hs hf
    have hk0 : ((k : Int) + 1 == 0) = false := by simp; omega
    by_cases h60 : 60 < s.size
    · have hK : Hid (kindN s.data.toList = 0) := kind_long (by rw [size_list]; exact h60)
      go_enter Tryd.func15, Tryd.ntmps15
      go_wp2_with fail
      refine hp.mono ?_
      rintro e w1 ⟨rfl, hb⟩
      go_wp2_with fail
      go_ret
      exact ⟨by rw [hK.out]; rfl, hb⟩
    have h60' : decide (60 < (s.size : Int)) = false := by simp; omega
    have hKs := kind_some (by rw [size_list]; exact h60) hf
    cases he : (S.toList == [])
    · have hne : S.data.toList ≠ [] := fun e => by rw [Lib.toList_data, e] at he; cases he
      have hSp : 0 < S.size := by rw [← size_list]; exact List.length_pos_iff.2 hne
      have hSI : (0 : Int) < (S.size : Int) := by omega
      have hKs' : Hid (kindN s.data.toList = if stB S.data.toList = true then k + 1 else 0) := hKs
      have hne' : Hid (S.data.toList ≠ []) := hne
      clear hKs hf hne
      go_enter Tryd.func15, Tryd.ntmps15
      go_wp2_with fail
      refine hp.mono ?_
      rintro e w1 ⟨rfl, hb⟩
      go_wp2_with fail
      go_loop [5, 6] (fun a i => ∃ j n : Nat, j ≤ S.size ∧ n ≤ j ∧ i = .int .i64 j ∧ a = .int .i64 n ∧ Hid (n = (S.data.toList.take j).count 64) ∧ Hid (∀ c ∈ S.data.toList.take j, at64 c = true)) (fun _ i => S.size - (intOf i).toNat)
      case atStart => exact ⟨0, 0, by omega, by omega, rfl, rfl, rfl, by show ∀ c ∈ _, _; simp⟩
      case round =>
        obtain ⟨j, n, hj, hn, rfl, rfl, hcnt, hall⟩ := hrel
        by_cases hlt : j < S.size
        · have htk : S.data.toList.take (j + 1) = S.data.toList.take j ++ [S[j]] := by
            rw [List.take_add_one, get_list S j hlt]; rfl
          have hmem : S[j] ∈ S.data.toList := List.mem_of_getElem? (get_list S j hlt)
          obtain ⟨c, hc⟩ : ∃ c, S[j] = c := ⟨_, rfl⟩
          rw [hc] at htk hmem
          have hcl := c.toNat_lt
          have hcs : Hid ((S.data.toList.take (j + 1)).count 64 = n + if c = 64 then 1 else 0) := by
            show _ = _
            rw [htk, List.count_append, ← hcnt.out, List.count_singleton]
            simp
          have has : at64 c = true → Hid (∀ c ∈ S.data.toList.take (j + 1), at64 c = true) := fun h => by
            show ∀ c ∈ _, _
            rw [htk]
            intro x hx
            rcases List.mem_append.1 hx with hx | hx
            · exact hall.out x hx
            · have : x = c := by simpa using hx
              rw [this]; exact h
          have hmem' : Hid (c ∈ S.data.toList) := hmem
          clear htk hmem
          by_cases h64 : c = 64
          · have h64' : (c.toNat : Int) = 64 := by rw [h64]; rfl
            have hcs' : Hid ((S.data.toList.take (j + 1)).count 64 = n + 1) := by show _ = _; rw [hcs.out, if_pos h64]
            have has' := has (by rw [h64]; rfl)
            clear has h64
            go_wp2_with fail
            exact ⟨⟨j + 1, n + 1, by omega, by omega, by go_num, by go_num, hcs'.out.symm, has'⟩, by simp [intOf]; omega⟩
          · have h64' := not64 h64
            have hcs' : Hid ((S.data.toList.take (j + 1)).count 64 = n) := by show _ = _; rw [hcs.out, if_neg h64]; rfl
            have hat : at64 c = sp c := by unfold at64; rw [show (c == 64) = false by simpa using h64]; rfl
            clear h64
            cases hsp : sp c
            · have hK : Hid (kindN s.data.toList = 0) := by
                show _ = _
                rw [hKs'.out, stB_no hmem'.out (by rw [hat, hsp])]; rfl
              obtain ⟨ha, b1, b2, b3, b4, b5⟩ := sp_none hsp
              clear has hat
              go_wp2_with (go_at_call 38; refine (alnum_any c _).mono ?_; rintro e w' ⟨rfl, rfl⟩)
              go_ret
              exact ⟨by rw [hK.out]; rfl, hb⟩
            · have has' := has (by rw [hat, hsp])
              clear has hat
              cases ha : al c
              · have h5 := sp_five ha hsp
                clear hsp
                rcases h5 with h5 | h5 | h5 | h5 | h5
                · have b0 : ((c.toNat : Int) != 58) = false := by rw [h5]; rfl
                  clear h5
                  go_wp2_with (go_at_call 38; refine (alnum_any c _).mono ?_; rintro e w' ⟨rfl, rfl⟩)
                  go_round
                  case rel => exact ⟨j + 1, n, by omega, by omega, by go_num, rfl, hcs'.out.symm, has'⟩
                  case measure => simp [intOf]; omega
                · have b0 : ((c.toNat : Int) != 58) = true := by rw [h5]; rfl
                  have b1 : ((c.toNat : Int) != 45) = false := by rw [h5]; rfl
                  clear h5
                  go_wp2_with (go_at_call 38; refine (alnum_any c _).mono ?_; rintro e w' ⟨rfl, rfl⟩)
                  go_round
                  case rel => exact ⟨j + 1, n, by omega, by omega, by go_num, rfl, hcs'.out.symm, has'⟩
                  case measure => simp [intOf]; omega
                · have b0 : ((c.toNat : Int) != 58) = true := by rw [h5]; rfl
                  have b1 : ((c.toNat : Int) != 45) = true := by rw [h5]; rfl
                  have b2 : ((c.toNat : Int) != 95) = false := by rw [h5]; rfl
                  clear h5
                  go_wp2_with (go_at_call 38; refine (alnum_any c _).mono ?_; rintro e w' ⟨rfl, rfl⟩)
                  go_round
                  case rel => exact ⟨j + 1, n, by omega, by omega, by go_num, rfl, hcs'.out.symm, has'⟩
                  case measure => simp [intOf]; omega
                · have b0 : ((c.toNat : Int) != 58) = true := by rw [h5]; rfl
                  have b1 : ((c.toNat : Int) != 45) = true := by rw [h5]; rfl
                  have b2 : ((c.toNat : Int) != 95) = true := by rw [h5]; rfl
                  have b3 : ((c.toNat : Int) != 46) = false := by rw [h5]; rfl
                  clear h5
                  go_wp2_with (go_at_call 38; refine (alnum_any c _).mono ?_; rintro e w' ⟨rfl, rfl⟩)
                  go_round
                  case rel => exact ⟨j + 1, n, by omega, by omega, by go_num, rfl, hcs'.out.symm, has'⟩
                  case measure => simp [intOf]; omega
                · have b0 : ((c.toNat : Int) != 58) = true := by rw [h5]; rfl
                  have b1 : ((c.toNat : Int) != 45) = true := by rw [h5]; rfl
                  have b2 : ((c.toNat : Int) != 95) = true := by rw [h5]; rfl
                  have b3 : ((c.toNat : Int) != 46) = true := by rw [h5]; rfl
                  have b4 : ((c.toNat : Int) != 92) = false := by rw [h5]; rfl
                  clear h5
                  go_wp2_with (go_at_call 38; refine (alnum_any c _).mono ?_; rintro e w' ⟨rfl, rfl⟩)
                  go_round
                  case rel => exact ⟨j + 1, n, by omega, by omega, by go_num, rfl, hcs'.out.symm, has'⟩
                  case measure => simp [intOf]; omega
              · go_wp2_with (go_at_call 38; refine (alnum_any c _).mono ?_; rintro e w' ⟨rfl, rfl⟩)
                go_round
                case rel => exact ⟨j + 1, n, by omega, by omega, by go_num, rfl, hcs'.out.symm, has'⟩
                case measure => simp [intOf]; omega
        · obtain rfl : j = S.size := by omega
          have hT : S.data.toList.take S.size = S.data.toList := List.take_of_length_le (by rw [size_list]; omega)
          rw [hT] at hcnt hall
          have hstb := stB_all hne'.out hall.out
          rw [← hcnt.out] at hstb
          have hd : S.data.toList.head? = some S[0] := by
            rw [List.head?_eq_getElem?]; exact get_list S 0 hSp
          rw [hd] at hstb
          obtain ⟨c, hc⟩ : ∃ c, S[0] = c := ⟨_, rfl⟩
          rw [hc] at hstb
          by_cases hn1 : 1 < n
          · have hK : Hid (kindN s.data.toList = 0) := by
              show _ = _
              rw [hKs'.out, hstb, show decide (n ≤ 1) = false by simp; omega]; rfl
            clear hstb hd hT
            have hn1' : (1 : Int) < (n : Int) := by omega
            go_wp2_with fail
            go_ret
            exact ⟨by rw [hK.out]; rfl, hb⟩
          · have hn1' : decide ((1 : Int) < (n : Int)) = false := by simp; omega
            by_cases h64 : c = 64
            · have h64' : ((c.toNat : Int) == 64) = true := by rw [h64]; rfl
              have hK : Hid (kindN s.data.toList = 0) := by
                show _ = _
                rw [hKs'.out, hstb, h64]; simp
              clear hstb hd hT h64
              go_wp2_with fail
              go_ret
              exact ⟨by rw [hK.out]; rfl, hb⟩
            · have h64' : ((c.toNat : Int) == 64) = false := by
                have := not64 h64
                simpa using this
              have hK : Hid (kindN s.data.toList = k + 1) := by
                show _ = _
                rw [hKs'.out, hstb, show decide (n ≤ 1) = true by simp; omega, show (some c == some (64 : UInt8)) = false by simpa using h64]; rfl
              clear hstb hd hT h64
              go_wp2_with fail
              go_ret
              exact ⟨by rw [hK.out]; rfl, hb⟩
    · have hse : S.data.toList = [] := by rw [Lib.toList_data] at he; simpa using he
      have hK : Hid (kindN s.data.toList = 0) := by show _ = _; rw [hKs, hse]; rfl
      clear hKs hf hse
      go_enter Tryd.func15, Tryd.ntmps15
      go_wp2_with fail
      refine hp.mono ?_
      rintro e w1 ⟨rfl, hb⟩
      go_wp2_with fail
      go_ret
      exact ⟨by rw [hK.out]; rfl, hb⟩
end Go.Proofs.YtimmieelpaoncaaDoor
