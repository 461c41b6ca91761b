/- The contract of the reference's Expand. -/
import Derived.Test.YtimmieelpaoncaaDoorR8
namespace Go.Proofs.YtimmieelpaoncaaDoor
open Go.RowKit Nam
theorem lapp (a b : ByteArray) : (a ++ b).data.toList = a.data.toList ++ b.data.toList := by rw [app_list]
theorem sapp (a b : ByteArray) : (a ++ b).size = a.size + b.size := by rw [← size_list, lapp, List.length_append, size_list, size_list]
theorem one_byte (s : ByteArray) (k : Nat) (h : k < s.size) : s.extract k (k + 1) = ⟨#[s[k]]⟩ := by
  rw [Lib.extract_eq, drop_cons s k h, show k + 1 - k = 1 by omega]
  rfl
set_option maxRecDepth 100000 in
set_option maxHeartbeats 4000000 in
theorem rexpand_any (s U : ByteArray) (w : World) (hs : s.size ≤ 1000000) (hu : U.size ≤ 1000000) :
    Calls Tryd.prog 29 #[.string s, .string U] w fun e w' => e = .returned (expV s.data.toList U.data.toList) ∧ Below w.heap.size w w' := by
  cases h : cutN U.data.toList with
  | none =>
    have hK : Hid (expV s.data.toList U.data.toList = strE none 40) := by show _ = _; unfold expV; rw [h]
    have hi := is_no U w hu h
    go_enter Tryd.func29, Tryd.ntmps29
    go_wp2_with fail
    refine hi.mono ?_
    rintro e w1 ⟨rfl, hb⟩
    go_wp2_with fail
    go_ret2
    exact ⟨by rw [hK.out]; rfl, hb⟩
  | some p =>
    obtain ⟨_, l1, l2, _⟩ := cutN_len h
    obtain ⟨x, y, m, k⟩ := p
    obtain ⟨A, rfl, hAz, _⟩ := letters x
    obtain ⟨Z, rfl, hZz, _⟩ := letters y
    have hA60 : A.size ≤ 60 := by rw [hAz]; exact l1
    have hZ60 : Z.size ≤ 60 := by rw [hZz]; exact l2
    have hK : Hid (expV s.data.toList U.data.toList = strE (expn U.data.toList (A.data.toList, Z.data.toList, m, k) s.data.toList) 42) := by show _ = _; unfold expV; rw [h]
    have hi := is_yes U w hu h
    have hin : Hid (∀ w, Calls Tryd.prog 11 #[.string U] w fun e w' => e = .returned (.tuple #[.string Z, .bool m]) ∧ Below w.heap.size w w') := fun w => rinst_some U A Z m k w hu h
    have hpr : Hid (∀ w, Calls Tryd.prog 17 #[.string U] w fun e w' => e = .returned (.string A) ∧ Below w.heap.size w w') := fun w => rprefix_some U A Z m k w hu h
    have hun := fun w => runescape_any Z w (by omega)
    obtain ⟨X0, hX0⟩ : ∃ X0, expn U.data.toList (A.data.toList, Z.data.toList, m, k) = X0 := ⟨_, rfl⟩
    have hpl : Hid (∀ c r, c ≠ 37 → X0 (c :: r) = (X0 r).map (c :: ·)) := by rw [← hX0]; exact fun c r h => expn_plain _ _ c r h
    have hend : Hid (X0 [37] = none) := by rw [← hX0]; exact expn_end _ _
    have hnil : Hid (X0 [] = some []) := by rw [← hX0]; rfl
    have hsp : Hid (∀ d t, X0 (37 :: d :: t) = (if d = 110 then some U.data.toList else if d = 112 then some A.data.toList else if d = 105 then some Z.data.toList else if d = 73 then unesc Z.data.toList else if d = 37 then some [37] else none).bind fun m => (X0 t).map (m ++ ·)) := by rw [← hX0]; exact expn_spec _ _
    rw [hX0] at hK
    clear hX0 hAz hZz l1 l2 h
    go_enter Tryd.func29, Tryd.ntmps29
    go_wp2_with fail
    refine hi.mono ?_
    rintro e w1 ⟨rfl, hb1⟩
    go_wp2_with fail
    go_loopw [6, 7] (fun v i wr => ∃ (j : Nat) (S : ByteArray), j ≤ s.size ∧ v = .string S ∧ i = .int .i64 j ∧ S.size ≤ 2000000 * j ∧ Hid (X0 s.data.toList = (X0 (s.data.toList.drop j)).map (S.data.toList ++ ·)) ∧ Below w.heap.size w wr) (fun _ i _ => s.size - (intOf i).toNat)
    case atStart => exact ⟨0, ⟨#[]⟩, by omega, rfl, rfl, by decide, by show _ = _; rw [List.drop_zero]; cases X0 s.data.toList <;> rfl, hb1⟩
    case round =>
      obtain ⟨j, S, hj, rfl, rfl, hSz, hX, hb⟩ := hrel
      by_cases hlt : j < s.size
      · have hdc := drop_cons s j hlt
        have hob := one_byte s j hlt
        obtain ⟨c, hc⟩ : ∃ c, s[j] = c := ⟨_, rfl⟩
        rw [hc] at hdc hob
        have hcl := c.toNat_lt
        by_cases h37 : c = 37
        · have h37' : (c.toNat : Int) = 37 := by rw [h37]; rfl
          rw [h37] at hdc
          by_cases hend1 : j + 1 = s.size
          · have hR : Hid (X0 s.data.toList = none) := by
              show _ = _
              rw [hX.out, hdc, List.drop_of_length_le (by rw [size_list]; omega), hend.out]; rfl
            have he : ((j : Int) + 1 == (s.size : Int)) = true := by rw [beq_iff_eq]; omega
            have heI : (j : Int) + 1 = (s.size : Int) := by omega
            clear h37 hdc hob he
            go_wp2_with fail
            go_ret2
            exact ⟨by rw [hK.out, hR.out]; rfl, hb⟩
          · have he : ¬ ((j : Int) + 1 = (s.size : Int)) := by omega
            have hj1 : (j : Int) + 1 < (s.size : Int) := by omega
            have hdc2 := drop_cons s (j + 1) (by omega)
            obtain ⟨d, hd⟩ : ∃ d, s[j + 1] = d := ⟨_, rfl⟩
            rw [hd] at hdc2
            have hX2 : Hid (X0 s.data.toList = ((if d = 110 then some U.data.toList else if d = 112 then some A.data.toList else if d = 105 then some Z.data.toList else if d = 73 then unesc Z.data.toList else if d = 37 then some [37] else none).bind fun m => (X0 (s.data.toList.drop (j + 1 + 1))).map (m ++ ·)).map (S.data.toList ++ ·)) := by
              show _ = _
              rw [hX.out, hdc, hdc2, hsp.out]
            have cv : ∀ x : UInt8, d ≠ x → ¬ (d.toNat : Int) = (x.toNat : Int) := fun x h e => h (UInt8.toNat_inj.1 (by omega))
            clear h37 hdc hdc2 hob
            have go_on : Hid (∀ M : ByteArray, (if d = 110 then some U.data.toList else if d = 112 then some A.data.toList else if d = 105 then some Z.data.toList else if d = 73 then unesc Z.data.toList else if d = 37 then some [37] else none) = some M.data.toList → X0 s.data.toList = (X0 (s.data.toList.drop (j + 1 + 1))).map ((S ++ M).data.toList ++ ·)) := fun M hM => by
              rw [hX2.out, hM, lapp]
              show ((X0 (s.data.toList.drop (j + 1 + 1))).map (M.data.toList ++ ·)).map (S.data.toList ++ ·) = _
              rw [map_app]
            have stop : Hid ((if d = 110 then some U.data.toList else if d = 112 then some A.data.toList else if d = 105 then some Z.data.toList else if d = 73 then unesc Z.data.toList else if d = 37 then some [37] else none) = none → X0 s.data.toList = none) := fun hM => by
              rw [hX2.out, hM]; rfl
            by_cases h110 : d = 110
            · have hd' : (d.toNat : Int) = 110 := by rw [h110]; rfl
              have hn : Hid (X0 s.data.toList = (X0 (s.data.toList.drop (j + 1 + 1))).map ((S ++ U).data.toList ++ ·)) := go_on.out U (by rw [if_pos h110])
              clear h110 cv 
              go_wp2_with fail
              refine (hin.out _).mono ?_
              rintro e w2 ⟨rfl, hb2⟩
              have hb12 := hb.trans (hb2.mono hb.size)
              go_wp2_with fail
              have hsz : (S ++ U).size = S.size + U.size := sapp _ _
              have hsz' : Hid _ := hsz
              exact ⟨⟨j + 1 + 1, S ++ U, by omega, rfl, by go_num, by rw [hsz'.out]; omega, hn, hb12⟩, by simp [intOf]; omega⟩
            have n110 := h110
            have m110 : ¬ (d.toNat : Int) = 110 := cv 110 h110
            by_cases h112 : d = 112
            · have hd' : (d.toNat : Int) = 112 := by rw [h112]; rfl
              have hn : Hid (X0 s.data.toList = (X0 (s.data.toList.drop (j + 1 + 1))).map ((S ++ A).data.toList ++ ·)) := go_on.out A (by rw [if_neg n110, if_pos h112])
              clear h112 cv n110
              go_wp2_with fail
              refine (hin.out _).mono ?_
              rintro e w2 ⟨rfl, hb2⟩
              have hb12 := hb.trans (hb2.mono hb.size)
              go_wp2_with fail
              refine (hpr.out _).mono ?_
              rintro e w3 ⟨rfl, hb3⟩
              have hb13 := hb12.trans (hb3.mono hb12.size)
              go_wp2_with fail
              have hsz : (S ++ A).size = S.size + A.size := sapp _ _
              have hsz' : Hid _ := hsz
              exact ⟨⟨j + 1 + 1, S ++ A, by omega, rfl, by go_num, by rw [hsz'.out]; omega, hn, hb13⟩, by simp [intOf]; omega⟩
            have n112 := h112
            have m112 : ¬ (d.toNat : Int) = 112 := cv 112 h112
            by_cases h105 : d = 105
            · have hd' : (d.toNat : Int) = 105 := by rw [h105]; rfl
              have hn : Hid (X0 s.data.toList = (X0 (s.data.toList.drop (j + 1 + 1))).map ((S ++ Z).data.toList ++ ·)) := go_on.out Z (by rw [if_neg n110, if_neg n112, if_pos h105])
              clear h105 cv n110 n112
              go_wp2_with fail
              refine (hin.out _).mono ?_
              rintro e w2 ⟨rfl, hb2⟩
              have hb12 := hb.trans (hb2.mono hb.size)
              go_wp2_with fail
              have hsz : (S ++ Z).size = S.size + Z.size := sapp _ _
              have hsz' : Hid _ := hsz
              exact ⟨⟨j + 1 + 1, S ++ Z, by omega, rfl, by go_num, by rw [hsz'.out]; omega, hn, hb12⟩, by simp [intOf]; omega⟩
            have n105 := h105
            have m105 : ¬ (d.toNat : Int) = 105 := cv 105 h105
            by_cases h73 : d = 73
            · have hd' : (d.toNat : Int) = 73 := by rw [h73]; rfl
              cases hq : unesc Z.data.toList with
              | none =>
                rw [hq] at hun
                have hun' : Hid (∀ w, Calls Tryd.prog 25 #[.string Z] w fun e w' => e = .returned (.tuple #[.string ⟨#[]⟩, .int .i64 41]) ∧ Below w.heap.size w w') := hun
                have hR : Hid (X0 s.data.toList = none) := stop.out (by rw [if_neg n110, if_neg n112, if_neg n105, if_pos h73, hq])
                clear h73 cv hun n110 n112 n105
                go_wp2_with fail
                refine (hin.out _).mono ?_
                rintro e w2 ⟨rfl, hb2⟩
                have hb12 := hb.trans (hb2.mono hb.size)
                go_wp2_with fail
                refine (hun'.out _).mono ?_
                rintro e w3 ⟨rfl, hb3⟩
                have hb13 := hb12.trans (hb3.mono hb12.size)
                go_wp2_with fail
                go_ret2
                exact ⟨by rw [hK.out, hR.out]; rfl, hb13⟩
              | some t =>
                obtain ⟨T, rfl, hTz, _⟩ := letters t
                have hTs : T.size ≤ 60 := by
                  have hqq := hq
                  unfold unesc at hqq
                  cases hr : rd Z.data.toList with
                  | none => rw [hr] at hqq; cases hqq
                  | some u =>
                    rw [hr] at hqq
                    have hl := rd_len hr
                    simp only [Option.bind_some] at hqq
                    split at hqq
                    · have : u = T.data.toList := Option.some.inj hqq
                      rw [this, size_list, size_list] at hl; omega
                    · cases hqq
                have hun' : Hid (∀ w, Calls Tryd.prog 25 #[.string Z] w fun e w' => e = .returned (.tuple #[.string T, .int .i64 0]) ∧ Below w.heap.size w w') := fun w => by
                  have := hun w
                  rw [strE_of hq] at this
                  exact this
                have hn : Hid (X0 s.data.toList = (X0 (s.data.toList.drop (j + 1 + 1))).map ((S ++ T).data.toList ++ ·)) := go_on.out T (by rw [if_neg n110, if_neg n112, if_neg n105, if_pos h73, hq])
                clear h73 cv hun hTz hq n110 n112 n105
                go_wp2_with fail
                refine (hin.out _).mono ?_
                rintro e w2 ⟨rfl, hb2⟩
                have hb12 := hb.trans (hb2.mono hb.size)
                go_wp2_with fail
                refine (hun'.out _).mono ?_
                rintro e w3 ⟨rfl, hb3⟩
                have hb13 := hb12.trans (hb3.mono hb12.size)
                go_wp2_with fail
                have hsz : (S ++ T).size = S.size + T.size := sapp _ _
                have hsz' : Hid _ := hsz
                exact ⟨⟨j + 1 + 1, S ++ T, by omega, rfl, by go_num, by rw [hsz'.out]; omega, hn, hb13⟩, by simp [intOf]; omega⟩
            have n73 := h73
            have m73 : ¬ (d.toNat : Int) = 73 := cv 73 h73
            by_cases h37 : d = 37
            · have hd' : (d.toNat : Int) = 37 := by rw [h37]; rfl
              have hn : Hid (X0 s.data.toList = (X0 (s.data.toList.drop (j + 1 + 1))).map ((S ++ (⟨#[37]⟩ : ByteArray)).data.toList ++ ·)) := go_on.out (⟨#[37]⟩ : ByteArray) (by rw [if_neg n110, if_neg n112, if_neg n105, if_neg n73, if_pos h37])
              clear h37 cv n110 n112 n105 n73
              go_wp2_with fail
              refine (hin.out _).mono ?_
              rintro e w2 ⟨rfl, hb2⟩
              have hb12 := hb.trans (hb2.mono hb.size)
              go_wp2_with fail
              have hsz : (S ++ (⟨#[37]⟩ : ByteArray)).size = S.size + 1 := sapp _ _
              have hsz' : Hid _ := hsz
              exact ⟨⟨j + 1 + 1, S ++ ⟨#[37]⟩, by omega, rfl, by go_num, by rw [hsz'.out]; omega, hn, hb12⟩, by simp [intOf]; omega⟩
            have n37 := h37
            have m37 : ¬ (d.toNat : Int) = 37 := cv 37 h37
            have hR : Hid (X0 s.data.toList = none) := stop.out (by rw [if_neg n110, if_neg n112, if_neg n105, if_neg n73, if_neg n37])
            clear cv n110 h110 n112 h112 n105 h105 n73 h73 n37 h37
            go_wp2_with fail
            refine (hin.out _).mono ?_
            rintro e w2 ⟨rfl, hb2⟩
            have hb12 := hb.trans (hb2.mono hb.size)
            go_wp2_with fail
            go_ret2
            exact ⟨by rw [hK.out, hR.out]; rfl, hb12⟩
        · have h37' : ¬ (c.toNat : Int) = 37 := fun e => h37 (UInt8.toNat_inj.1 (by simp; omega))
          have hn : Hid (X0 s.data.toList = (X0 (s.data.toList.drop (j + 1))).map ((S ++ (⟨#[c]⟩ : ByteArray)).data.toList ++ ·)) := by
            show _ = _
            rw [hX.out, hdc, hpl.out _ _ h37, lapp, map_snoc]
          have hj1 : (j : Int) + 1 ≤ (s.size : Int) := by omega
          clear h37 hdc
          go_wp2_with fail
          have hsz : (S ++ (⟨#[c]⟩ : ByteArray)).size = S.size + 1 := sapp _ _
          have hsz' : Hid _ := hsz
          exact ⟨⟨j + 1, S ++ ⟨#[c]⟩, by omega, rfl, by go_num, by rw [hsz'.out]; omega, hn, hb⟩, by simp [intOf]; omega⟩
      · obtain rfl : j = s.size := by omega
        have hR : Hid (X0 s.data.toList = some S.data.toList) := by
          show _ = _
          rw [hX.out, List.drop_of_length_le (by rw [size_list]; omega), hnil.out]; simp
        go_wp2_with fail
        go_ret2
        exact ⟨by rw [hK.out, strE_of hR.out]; rfl, hb⟩
end Go.Proofs.YtimmieelpaoncaaDoor
