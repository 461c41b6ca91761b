/- The contract of the reference's Split. -/
import Derived.Test.YtcihilaofehomaaDoorR1
import Derived.Test.YtcihilaofehomaaDoorLN6
namespace Go.Proofs.YtcihilaofehomaaDoor
open Go.RowKit Lin
theorem mapP (X : List L) (y : L) (o : Option (List L)) : (o.map (y :: ·)).map (X ++ ·) = o.map ((X ++ [y]) ++ ·) := by cases o <;> simp
theorem mapQ (Y : L) (c : UInt8) (o : Option (L × L)) : (o.map fun p => (c :: p.1, p.2)).map (fun p => (Y ++ p.1, p.2)) = o.map fun p => ((Y ++ [c]) ++ p.1, p.2) := by cases o <;> simp
theorem bne8 (c d : UInt8) (h : c ≠ d) : ((c.toNat : Int) != (d.toNat : Int)) = true := by rw [bne, beq8 c d h]; rfl
theorem beq_size {i n : Nat} (h : i < n) : ((i : Int) == (n : Int)) = false := by simp; omega
theorem strs_snoc (X : List L) (A : ByteArray) : strs (X ++ [A.data.toList]) = strs X ++ [.string A] := by
  unfold strs
  rw [List.map_append]
  show _ ++ [Value.string ⟨A.data.toList.toArray⟩] = _
  rw [Lib.mk_data]
set_option maxRecDepth 100000 in
set_option maxHeartbeats 8000000 in
theorem rsplit_any (s : ByteArray) (w : World) (hs : s.size ≤ 1000000) :
    Calls Tryd.prog 16 #[.string s] w (SplitP (spl s.data.toList) w) := by
  obtain ⟨i0, hinf, hz0, hz1, hz2⟩ := info_parts infoS
  obtain ⟨j0, jinf, jz0, jz1, jz2⟩ := info_parts info8
  go_enter Tryd.func16, Tryd.ntmps16
  go_wp2_with fail
  go_loopw [4, 5] (fun v i wr => ∃ (k : Nat) (X : List L), k ≤ s.size ∧ i = .int .i64 k ∧ X.length ≤ k ∧ Hid (spl s.data.toList = (spl (s.data.toList.drop k)).map (X ++ ·)) ∧ Hid (wr.ownsRow w.heap.size 9 1 v X.length (strs X)) ∧ Below w.heap.size w wr) (fun _ i _ => s.size - (intOf i).toNat)
  case atStart => exact ⟨0, [], by omega, rfl, by simp, by show _ = _; rw [List.drop_zero]; cases spl s.data.toList <;> rfl, World.ownsRow_nil _ _ _ _, Below.refl _ _⟩
  case round =>
    obtain ⟨k, X, hk, rfl, hXl, hX, hown, hb⟩ := hrel
    go_wp2_with fail
    go_loopw [5] (fun i wr2 => ∃ m : Nat, k ≤ m ∧ m ≤ s.size ∧ i = .int .i64 m ∧ Hid (spl s.data.toList = (spl (s.data.toList.drop m)).map (X ++ ·)) ∧ Hid (wr2.ownsRow w.heap.size 9 1 u4 X.length (strs X)) ∧ Below w.heap.size w wr2) (fun i _ => s.size - (intOf i).toNat)
    case atStart => exact ⟨k, by omega, by omega, rfl, hX, hown, hb⟩
    case round =>
      clear hown hb
      obtain ⟨m, hkm, hm, rfl, hM, hown, hb⟩ := hrel
      have hwz := hb.size
      by_cases hlt : m < s.size
      · have hg := get_list s m hlt
        obtain ⟨c, hc⟩ : ∃ c, s[m] = c := ⟨_, rfl⟩
        rw [hc] at hg
        have hgH : Hid (s.data.toList[m]? = some c) := hg
        clear hg
        have hmI : (m : Int) < (s.size : Int) := by omega
        have hme := beq_size hlt
        have hbl := fun w => blank_any c w
        cases hcb : bl c
        · rw [hcb] at hbl
          have hbl' : Hid (∀ w, Calls Tryd.prog 30 #[.int .u8 c.toNat] w fun e w' => e = .returned (.bool false) ∧ w' = w) := hbl
          have hcbH : Hid (bl c = false) := hcb
          clear hbl hcb
          by_cases hq : c = 34 ∨ c = 39
          · have h92 : c ≠ 92 := by rintro rfl; revert hq; decide
            have hSQ : Hid (spl s.data.toList = ((cutQ c (s.data.toList.drop (m + 1))).bind fun p => if bat p.2 = 0 then (spl p.2).map (p.1 :: ·) else none).map (X ++ ·)) := by
              show _ = _
              rw [hM.out, spl_quote hgH.out hcbH.out hq]
            have hq' : ((c.toNat : Int) != 34) = false ∨ (((c.toNat : Int) != 34) = true ∧ ((c.toNat : Int) != 39) = false) := by
              rcases hq with h | h
              · left; rw [h]; rfl
              · right; rw [h]; exact ⟨rfl, rfl⟩
            have h92H : Hid (c ≠ 92) := h92
            clear hq h92
            rcases hq' with n1 | ⟨n1, n2⟩
            all_goals
              go_wp2_with (go_at_call 30; refine (hbl'.out _).mono ?_; rintro e w' ⟨rfl, rfl⟩)
              go_loopw [5, 8] (fun i vb wr2 => ∃ (p : Nat) (Y : L), m + 1 ≤ p ∧ p ≤ s.size ∧ i = .int .i64 p ∧ Y.length ≤ p ∧ Hid (cutQ c (s.data.toList.drop (m + 1)) = (cutQ c (s.data.toList.drop p)).map fun x => (Y ++ x.1, x.2)) ∧ Hid (wr2.ownsRow w.heap.size 9 1 u4 X.length (strs X)) ∧ Hid (wr2.ownsRow w.heap.size 5 1 vb Y.length (Lib.byteCells Y)) ∧ Below w.heap.size w wr2) (fun i _ _ => s.size - (intOf i).toNat)
              case atStart => exact ⟨m + 1, [], by omega, by omega, by go_num, by simp, by show _ = _; cases cutQ c (s.data.toList.drop (m + 1)) <;> rfl, hown, World.ownsRow_nil _ _ _ _, hb⟩
              case round =>
                clear hown hb hwz hbl' hmI hme hc
                obtain ⟨p, Y, hmp, hp, rfl, hYl, hQ, hown, hownb, hb⟩ := hrel
                have hwz := hb.size
                by_cases hlp : p < s.size
                · have hgp := get_list s p hlp
                  obtain ⟨d, hd⟩ : ∃ d, s[p] = d := ⟨_, rfl⟩
                  rw [hd] at hgp
                  have hpI : (p : Int) < (s.size : Int) := by omega
                  have hpe := beq_size hlp
                  by_cases hdq : d = c
                  · have hQ2 : Hid (cutQ c (s.data.toList.drop (m + 1)) = some (Y, s.data.toList.drop (p + 1))) := by
                      show _ = _
                      rw [hQ.out, cutQ_fin (by rw [hgp, hdq])]; simp
                    have hdI : ((d.toNat : Int) != (c.toNat : Int)) = false := by rw [hdq]; simp
                    clear hdq hgp
                    by_cases hl2 : p + 1 < s.size
                    · have hg2 := get_list s (p + 1) hl2
                      obtain ⟨e, he⟩ : ∃ e, s[p + 1] = e := ⟨_, rfl⟩
                      rw [he] at hg2
                      have hp2I : (p : Int) + 1 < (s.size : Int) := by omega
                      have hbe := fun w => blank_any e w
                      cases heb : bl e
                      · rw [heb] at hbe
                        have hbe' : Hid (∀ w, Calls Tryd.prog 30 #[.int .u8 e.toNat] w fun e w' => e = .returned (.bool false) ∧ w' = w) := hbe
                        have hN : Hid (spl s.data.toList = none) := by
                          show _ = _
                          rw [hSQ.out, hQ2.out, Option.bind_some, if_neg (bat_dropN hg2 heb)]; rfl
                        clear hbe heb hg2
                        go_wp2_with (go_at_call 30; refine (hbe'.out _).mono ?_; rintro e w' ⟨rfl, rfl⟩)
                        go_ret2
                        rw [hN.out]
                        exact ⟨rfl, hb⟩
                      · rw [heb] at hbe
                        have hbe' : Hid (∀ w, Calls Tryd.prog 30 #[.int .u8 e.toNat] w fun e w' => e = .returned (.bool true) ∧ w' = w) := hbe
                        obtain ⟨A, hAl, hAz, hAe⟩ := letters Y
                        have hN : Hid (spl s.data.toList = (spl (s.data.toList.drop (p + 1))).map ((X ++ [A.data.toList]) ++ ·)) := by
                          show _ = _
                          rw [hSQ.out, hQ2.out, Option.bind_some, if_pos (bat_drop0 (.inr ⟨e, hg2, heb⟩)), mapP, hAl]
                        have hcv := conv_row hownb.out
                        rw [hAe] at hcv
                        have hr1 := hown.out.alloc (.cells #[.string A] 9)
                        have hsn : Hid (strs (X ++ [A.data.toList]) = strs X ++ [.string A]) := strs_snoc X A
                        clear hbe heb hg2 hAl hAz hAe
                        go_wp2_with (first | (go_at_call 30; refine (hbe'.out _).mono ?_; rintro e w' ⟨rfl, rfl⟩) | (at_builtin; refine wpList_append_own_at _ rfl _ _ 37 rfl w.heap.size 9 i0 (.string ⟨#[]⟩) 1 16 Tryd.underlying37 hinf hz0 hz1 hz2 rfl (by decide) _ _ _ rfl hr1 ⟨_, 0, none⟩ 1 1 [.string A] rfl rfl (row_news1 _ _ _) (fun x hx => by simp at hx; subst hx; rfl) (by unfold maxLen; omega) (by omega) (by simp; omega) ?_; intro v' w3 hown' hgrow _ _))
                        have hb4 : Below w.heap.size w w3 := (hb.alloc hwz _).grown hgrow (by simp; omega) (fun k e => (hr1.lt k e).1)
                        exact ⟨⟨p + 1, X ++ [A.data.toList], by omega, by go_num, by simp; omega, hN, by rw [hsn.out, List.length_append]; exact hown', hb4⟩, by simp [intOf]; omega⟩
                    · have hp2 : p + 1 = s.size := by omega
                      have hp2I : ¬ ((p : Int) + 1 < (s.size : Int)) := by omega
                      obtain ⟨A, hAl, hAz, hAe⟩ := letters Y
                      have hN : Hid (spl s.data.toList = (spl (s.data.toList.drop (p + 1))).map ((X ++ [A.data.toList]) ++ ·)) := by
                        show _ = _
                        rw [hSQ.out, hQ2.out, Option.bind_some, if_pos (bat_drop0 (.inl (by rw [size_list]; exact hp2))), mapP, hAl]
                      have hcv := conv_row hownb.out
                      rw [hAe] at hcv
                      have hr1 := hown.out.alloc (.cells #[.string A] 9)
                      have hsn : Hid (strs (X ++ [A.data.toList]) = strs X ++ [.string A]) := strs_snoc X A
                      clear hAl hAz hAe hp2
                      go_wp2_with (at_builtin; refine wpList_append_own_at _ rfl _ _ 37 rfl w.heap.size 9 i0 (.string ⟨#[]⟩) 1 16 Tryd.underlying37 hinf hz0 hz1 hz2 rfl (by decide) _ _ _ rfl hr1 ⟨_, 0, none⟩ 1 1 [.string A] rfl rfl (row_news1 _ _ _) (fun x hx => by simp at hx; subst hx; rfl) (by unfold maxLen; omega) (by omega) (by simp; omega) ?_; intro v' w3 hown' hgrow _ _)
                      have hb4 : Below w.heap.size w w3 := (hb.alloc hwz _).grown hgrow (by simp; omega) (fun k e => (hr1.lt k e).1)
                      exact ⟨⟨p + 1, X ++ [A.data.toList], by omega, by go_num, by simp; omega, hN, by rw [hsn.out, List.length_append]; exact hown', hb4⟩, by simp [intOf]; omega⟩
                  · have hdI : ((d.toNat : Int) != (c.toNat : Int)) = true := bne8 d c hdq
                    by_cases hd92 : d = 92
                    · have hdI2 : (d.toNat : Int) = 92 := by rw [hd92]; rfl
                      rw [hd92] at hgp
                      rw [hdI2] at hdI
                      by_cases hl2 : p + 1 < s.size
                      · have hg2 := get_list s (p + 1) hl2
                        obtain ⟨e, he⟩ : ∃ e, s[p + 1] = e := ⟨_, rfl⟩
                        rw [he] at hg2
                        have hp2I : (p : Int) + 1 < (s.size : Int) := by omega
                        have hp2e : ((p : Int) + 1 == (s.size : Int)) = false := by simp; omega
                        by_cases he110 : e = 110
                        · have heI : (e.toNat : Int) = 110 := by rw [he110]; rfl
                          have hQ3 : Hid (cutQ c (s.data.toList.drop (m + 1)) = (cutQ c (s.data.toList.drop (p + 1 + 1))).map fun x => ((Y ++ [10]) ++ x.1, x.2)) := by
                            show _ = _
                            rw [hQ.out, cutQ_stepE h92H.out hgp (by rw [hg2, he110]) es1_n, mapQ]
                          have hr1 := hownb.out.alloc (.cells #[.int .u8 10] 5)
                          clear hgp hg2 he110 hd92 hdq
                          go_wp2_with (at_builtin; refine wpList_append_own_at _ rfl _ _ 47 rfl w.heap.size 5 j0 (.int .u8 0) 1 1 Tryd.underlying47 jinf jz0 jz1 jz2 rfl (by decide) _ _ _ rfl hr1 ⟨_, 0, none⟩ 1 1 [.int .u8 10] rfl rfl (row_news1 _ _ _) (fun x hx => by simp at hx; rcases hx with rfl <;> rfl) (by unfold maxLen; omega) (by omega) (by simp; omega) ?_; intro v' w3 hown' hgrow _ _)
                          have hb4 : Below w.heap.size w w3 := (hb.alloc hwz _).grown hgrow (by simp; omega) (fun k e => (hr1.lt k e).1)
                          have hl4 := own_grown (hown.out.alloc (.cells #[.int .u8 10] 5)) hgrow (own_ne hown.out hownb.out (by decide))
                          exact ⟨⟨p + 1 + 1, Y ++ [10], by omega, by omega, by go_num, by simp; omega, hQ3, hl4, by rw [byteCells_snoc, List.length_append]; exact hown', hb4⟩, by simp [intOf]; omega⟩
                        · have n110 : ((e.toNat : Int) != 110) = true := bne8 e 110 he110
                          have e110 : ((e.toNat : Int) == 110) = false := beq8 e 110 he110
                          by_cases heq : e = 34 ∨ e = 39 ∨ e = 92
                          · have hQ3 : Hid (cutQ c (s.data.toList.drop (m + 1)) = (cutQ c (s.data.toList.drop (p + 1 + 1))).map fun x => ((Y ++ [e]) ++ x.1, x.2)) := by
                              show _ = _
                              rw [hQ.out, cutQ_stepE h92H.out hgp hg2 (es1_q heq), mapQ]
                            have heI : ((e.toNat : Int) != 34) = false ∨ (((e.toNat : Int) != 34) = true ∧ ((e.toNat : Int) != 39) = false) ∨ (((e.toNat : Int) != 34) = true ∧ ((e.toNat : Int) != 39) = true ∧ ((e.toNat : Int) != 92) = false) := by
                              rcases heq with h | h | h
                              · left; rw [h]; rfl
                              · right; left; rw [h]; exact ⟨rfl, rfl⟩
                              · right; right; rw [h]; exact ⟨rfl, rfl, rfl⟩
                            have hr1 := hownb.out.alloc (.cells #[.int .u8 e.toNat] 5)
                            have hl3 := hown.out.alloc (.cells #[.int .u8 e.toNat] 5)
                            clear hgp hg2 he110 hd92 hdq heq
                            rcases heI with m1 | ⟨m1, m2⟩ | ⟨m1, m2, m3⟩
                            all_goals
                              go_wp2_with (at_builtin; refine wpList_append_own_at _ rfl _ _ 47 rfl w.heap.size 5 j0 (.int .u8 0) 1 1 Tryd.underlying47 jinf jz0 jz1 jz2 rfl (by decide) _ _ _ rfl hr1 ⟨_, 0, none⟩ 1 1 [.int .u8 e.toNat] rfl rfl (row_news1 _ _ _) (fun x hx => by simp at hx; rcases hx with rfl <;> rfl) (by unfold maxLen; omega) (by omega) (by simp; omega) ?_; intro v' w3 hown' hgrow _ _)
                              have hb4 : Below w.heap.size w w3 := (hb.alloc hwz _).grown hgrow (by simp; omega) (fun k e => (hr1.lt k e).1)
                              have hl4 := own_grown hl3 hgrow (own_ne hown.out hownb.out (by decide))
                              exact ⟨⟨p + 1 + 1, Y ++ [e], by omega, by omega, by go_num, by simp; omega, hQ3, hl4, by rw [byteCells_snoc, List.length_append]; exact hown', hb4⟩, by simp [intOf]; omega⟩
                          · have m1 : ((e.toNat : Int) != 34) = true := bne8 e 34 (fun h => heq (.inl h))
                            have m2 : ((e.toNat : Int) != 39) = true := bne8 e 39 (fun h => heq (.inr (.inl h)))
                            have m3 : ((e.toNat : Int) != 92) = true := bne8 e 92 (fun h => heq (.inr (.inr h)))
                            have hN : Hid (spl s.data.toList = none) := by
                              show _ = _
                              rw [hSQ.out, hQ.out, cutQ_stepN h92H.out hgp (.inr ⟨e, hg2, es1_none (fun h => heq (.inl h)) (fun h => heq (.inr (.inl h))) (fun h => heq (.inr (.inr h))) he110⟩)]; rfl
                            clear hgp hg2 he110 hd92 hdq heq
                            go_wp2_with fail
                            go_ret2
                            rw [hN.out]
                            exact ⟨rfl, hb⟩
                      · have hp2e : ((p : Int) + 1 == (s.size : Int)) = true := by simp; omega
                        have hN : Hid (spl s.data.toList = none) := by
                          show _ = _
                          rw [hSQ.out, hQ.out, cutQ_stepN h92H.out hgp (.inl (by rw [List.getElem?_eq_none_iff, size_list]; omega))]; rfl
                        clear hgp hd92 hdq
                        go_wp2_with fail
                        go_ret2
                        rw [hN.out]
                        exact ⟨rfl, hb⟩
                    · have hdI2 : ((d.toNat : Int) == 92) = false := beq8 d 92 hd92
                      have hQ3 : Hid (cutQ c (s.data.toList.drop (m + 1)) = (cutQ c (s.data.toList.drop (p + 1))).map fun x => ((Y ++ [d]) ++ x.1, x.2)) := by
                        show _ = _
                        rw [hQ.out, cutQ_step hgp hdq hd92, mapQ]
                      have hr1 := hownb.out.alloc (.cells #[.int .u8 d.toNat] 5)
                      have hl3 := hown.out.alloc (.cells #[.int .u8 d.toNat] 5)
                      clear hgp hd92 hdq
                      go_wp2_with (at_builtin; refine wpList_append_own_at _ rfl _ _ 47 rfl w.heap.size 5 j0 (.int .u8 0) 1 1 Tryd.underlying47 jinf jz0 jz1 jz2 rfl (by decide) _ _ _ rfl hr1 ⟨_, 0, none⟩ 1 1 [.int .u8 d.toNat] rfl rfl (row_news1 _ _ _) (fun x hx => by simp at hx; rcases hx with rfl <;> rfl) (by unfold maxLen; omega) (by omega) (by simp; omega) ?_; intro v' w3 hown' hgrow _ _)
                      have hb4 : Below w.heap.size w w3 := (hb.alloc hwz _).grown hgrow (by simp; omega) (fun k e => (hr1.lt k e).1)
                      have hl4 := own_grown hl3 hgrow (own_ne hown.out hownb.out (by decide))
                      exact ⟨⟨p + 1, Y ++ [d], by omega, by omega, by go_num, by simp; omega, hQ3, hl4, by rw [byteCells_snoc, List.length_append]; exact hown', hb4⟩, by simp [intOf]; omega⟩
                · obtain rfl : p = s.size := by omega
                  have hN : Hid (spl s.data.toList = none) := by
                    show _ = _
                    have := cutQ_none c s.data.toList
                    rw [size_list] at this
                    rw [hSQ.out, hQ.out, this]; rfl
                  have hpe : ((s.size : Int) == (s.size : Int)) = true := by simp
                  go_wp2_with fail
                  go_ret2
                  rw [hN.out]
                  exact ⟨rfl, hb⟩
          · have n1 : ((c.toNat : Int) != 34) = true := bne8 c 34 (fun e => hq (.inl e))
            have n2 : ((c.toNat : Int) != 39) = true := bne8 c 39 (fun e => hq (.inr e))
            have hqH : Hid (¬ (c = 34 ∨ c = 39)) := hq
            clear hq
            go_wp2_with (go_at_call 30; refine (hbl'.out _).mono ?_; rintro e w' ⟨rfl, rfl⟩)
            go_loopw [5] (fun i wr2 => ∃ p : Nat, m ≤ p ∧ p ≤ s.size ∧ i = .int .i64 p ∧ Hid (∀ d ∈ (s.data.toList.drop m).take (p - m), bl d = false) ∧ Hid (wr2.ownsRow w.heap.size 9 1 u4 X.length (strs X)) ∧ Below w.heap.size w wr2) (fun i _ => s.size - (intOf i).toNat)
            case atStart => exact ⟨m, by omega, by omega, rfl, by show ∀ d ∈ _, _; simp, hown, hb⟩
            case round =>
              clear hown hb hwz hbl' n1 n2 hme hmI hc
              obtain ⟨p, hmp, hp, rfl, hno, hown, hb⟩ := hrel
              have hwz := hb.size
              have fin : ∀ (he : p = s.size ∨ ∃ d, s.data.toList[p]? = some d ∧ bl d = true), Hid (m < p) ∧ Hid (spl s.data.toList = (spl (s.data.toList.drop p)).map ((X ++ [(s.extract m p).data.toList]) ++ ·)) := fun he => by
                have hmp' : m < p := by
                  rcases Nat.lt_or_ge m p with h | h
                  · exact h
                  · obtain rfl : p = m := by omega
                    rcases he with rfl | ⟨d, hd, hbd⟩
                    · omega
                    · rw [hgH.out] at hd
                      cases hd
                      rw [hcbH.out] at hbd; cases hbd
                refine ⟨hmp', ?_⟩
                show _ = _
                rw [hM.out, spl_plain hgH.out hcbH.out hqH.out hmp (by rw [size_list]; exact hp) hno.out (by rw [size_list]; exact he), mapP, Lib.extract_data]
              obtain ⟨A, hA⟩ : ∃ A, s.extract m p = A := ⟨_, rfl⟩
              rw [hA] at fin
              by_cases hlp : p < s.size
              · have hgp := get_list s p hlp
                obtain ⟨d, hd⟩ : ∃ d, s[p] = d := ⟨_, rfl⟩
                rw [hd] at hgp
                have hpI : (p : Int) < (s.size : Int) := by omega
                have hbd := fun w => blank_any d w
                cases hdb : bl d
                · rw [hdb] at hbd
                  have hbd' : Hid (∀ w, Calls Tryd.prog 30 #[.int .u8 d.toNat] w fun e w' => e = .returned (.bool false) ∧ w' = w) := hbd
                  have hno2 : Hid (∀ d ∈ (s.data.toList.drop m).take (p + 1 - m), bl d = false) := by
                    show ∀ d ∈ _, _
                    rw [show p + 1 - m = (p - m) + 1 by omega, List.take_add_one, List.getElem?_drop, show m + (p - m) = p by omega, hgp]
                    intro y hy
                    rcases List.mem_append.1 hy with h | h
                    · exact hno.out y h
                    · have : y = d := by simpa using h
                      rw [this]; exact hdb
                  clear hbd hdb hgp fin
                  go_wp2_with (go_at_call 30; refine (hbd'.out _).mono ?_; rintro e w' ⟨rfl, rfl⟩)
                  exact ⟨⟨p + 1, by omega, by omega, by go_num, hno2, hown, hb⟩, by simp [intOf]; omega⟩
                · rw [hdb] at hbd
                  have hbd' : Hid (∀ w, Calls Tryd.prog 30 #[.int .u8 d.toNat] w fun e w' => e = .returned (.bool true) ∧ w' = w) := hbd
                  obtain ⟨f1, f2⟩ := fin (.inr ⟨d, hgp, hdb⟩)
                  have hf1 := f1.out
                  have hr1 := hown.out.alloc (.cells #[.string A] 9)
                  have x1 : (m : Int) ≤ (p : Int) := by omega
                  have x2 : (p : Int) ≤ (s.size : Int) := by omega
                  have hsn : Hid (strs (X ++ [A.data.toList]) = strs X ++ [.string A]) := strs_snoc X A
                  clear hbd hdb hgp fin
                  go_wp2_with (first | (go_at_call 30; refine (hbd'.out _).mono ?_; rintro e w' ⟨rfl, rfl⟩) | (at_builtin; refine wpList_append_own_at _ rfl _ _ 37 rfl w.heap.size 9 i0 (.string ⟨#[]⟩) 1 16 Tryd.underlying37 hinf hz0 hz1 hz2 rfl (by decide) _ _ _ rfl hr1 ⟨_, 0, none⟩ 1 1 [.string A] rfl rfl (row_news1 _ _ _) (fun x hx => by simp at hx; subst hx; rfl) (by unfold maxLen; omega) (by omega) (by simp; omega) ?_; intro v' w3 hown' hgrow _ _))
                  have hb4 : Below w.heap.size w w3 := (hb.alloc hwz _).grown hgrow (by simp; omega) (fun k e => (hr1.lt k e).1)
                  exact ⟨⟨p, X ++ [A.data.toList], by omega, rfl, by simp; omega, f2, by rw [hsn.out, List.length_append]; exact hown', hb4⟩, by simp [intOf]; omega⟩
              · obtain rfl : p = s.size := by omega
                obtain ⟨f1, f2⟩ := fin (.inl rfl)
                have hf1 := f1.out
                have hr1 := hown.out.alloc (.cells #[.string A] 9)
                have x1 : (m : Int) ≤ (s.size : Int) := by omega
                have hsn : Hid (strs (X ++ [A.data.toList]) = strs X ++ [.string A]) := strs_snoc X A
                clear fin
                go_wp2_with (at_builtin; refine wpList_append_own_at _ rfl _ _ 37 rfl w.heap.size 9 i0 (.string ⟨#[]⟩) 1 16 Tryd.underlying37 hinf hz0 hz1 hz2 rfl (by decide) _ _ _ rfl hr1 ⟨_, 0, none⟩ 1 1 [.string A] rfl rfl (row_news1 _ _ _) (fun x hx => by simp at hx; subst hx; rfl) (by unfold maxLen; omega) (by omega) (by simp; omega) ?_; intro v' w3 hown' hgrow _ _)
                have hb4 : Below w.heap.size w w3 := (hb.alloc hwz _).grown hgrow (by simp; omega) (fun k e => (hr1.lt k e).1)
                exact ⟨⟨s.size, X ++ [A.data.toList], by omega, rfl, by simp; omega, f2, by rw [hsn.out, List.length_append]; exact hown', hb4⟩, by simp [intOf]; omega⟩
        · rw [hcb] at hbl
          have hbl' : Hid (∀ w, Calls Tryd.prog 30 #[.int .u8 c.toNat] w fun e w' => e = .returned (.bool true) ∧ w' = w) := hbl
          have hM2 : Hid (spl s.data.toList = (spl (s.data.toList.drop (m + 1))).map (X ++ ·)) := by
            show _ = _
            rw [hM.out, spl_blank hgH.out hcb]
          clear hbl hcb
          go_wp2_with (go_at_call 30; refine (hbl'.out _).mono ?_; rintro e w' ⟨rfl, rfl⟩)
          exact ⟨⟨m + 1, by omega, by omega, by go_num, hM2, hown, hb⟩, by simp [intOf]; omega⟩
      · obtain rfl : m = s.size := by omega
        have hE : Hid (spl s.data.toList = some X) := by
          show _ = _
          rw [hM.out]
          have := spl_end s.data.toList
          rw [size_list] at this
          rw [this]; simp
        have hme : ((s.size : Int) == (s.size : Int)) = true := by simp
        go_wp2_with fail
        go_ret2
        rw [hE.out]
        exact ⟨_, rfl, hown.out, hb⟩
end Go.Proofs.YtcihilaofehomaaDoor
