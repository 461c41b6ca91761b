/- The contract of the reference's Unescape. -/
import Derived.Test.YtimmieelpaoncaaDoorR6
import Derived.Test.YtimmieelpaoncaaDoorA9
import Derived.Deep.RegionHeld3
import Derived.Deep.AppendLies
namespace Go.Proofs.YtimmieelpaoncaaDoor
open Go.RowKit Nam
theorem drop_cons (s : ByteArray) (k : Nat) (h : k < s.size) : s.data.toList.drop k = s[k] :: s.data.toList.drop (k + 1) := by
  rw [List.drop_eq_getElem_cons (by rw [size_list]; exact h)]; rfl
theorem map_snoc (o : Option L) (X : L) (c : UInt8) : (o.map (c :: ·)).map (X ++ ·) = o.map ((X ++ [c]) ++ ·) := by cases o <;> simp
set_option maxRecDepth 100000 in
set_option maxHeartbeats 4000000 in
theorem runescape_any (s : ByteArray) (w : World) (hs : s.size ≤ 1000000) :
    Calls Tryd.prog 25 #[.string s] w fun e w' => e = .returned (strE (unesc s.data.toList) 41) ∧ Below w.heap.size w w' := by
  obtain ⟨i0, hinf, hz0, hz1, hz2⟩ := info_parts info8
  go_enter Tryd.func25, Tryd.ntmps25
  go_wp2_with fail
  go_loopw [4, 5] (fun v i wr => ∃ (k : Nat) (X : L), k ≤ s.size ∧ i = .int .i64 k ∧ X.length ≤ k ∧ Hid (rd s.data.toList = (rd (s.data.toList.drop k)).map (X ++ ·)) ∧ Hid (wr.ownsRow w.heap.size 5 1 v X.length (Lib.byteCells X)) ∧ Below w.heap.size w wr) (fun _ i _ => s.size - (intOf i).toNat)
  case atStart => exact ⟨0, [], by omega, rfl, by simp, by show _ = _; rw [List.drop_zero]; cases rd s.data.toList <;> rfl, World.ownsRow_nil _ _ _ _, Below.refl _ _⟩
  case round =>

    obtain ⟨k, X, hk, rfl, hXl, hrd, hown, hb⟩ := hrel
    have hwz := hb.size
    by_cases hlt : k < s.size
    · have hdc := drop_cons s k hlt
      obtain ⟨c, hc⟩ : ∃ c, s[k] = c := ⟨_, rfl⟩
      rw [hc] at hdc
      have hcl := c.toNat_lt
      by_cases h92 : c = 92
      · have h92' : (c.toNat : Int) = 92 := by rw [h92]; rfl
        have hrd2 : Hid (rd s.data.toList = ((nb (s.data.toList.drop (k + 1))).bind fun p => (rd p.2).map (p.1 :: ·)).map (X ++ ·)) := by
          show _ = _
          rw [hrd.out, hdc, h92, rd_bs]
        clear h92
        by_cases h3 : s.size ≤ k + 3
        · have h3' : (s.size : Int) ≤ (k : Int) + 3 := by omega
          have hT : Hid (unesc s.data.toList = none) := by
            show _ = _
            unfold unesc
            rw [hrd2.out, nb_short (by rw [List.length_drop, size_list]; omega)]; rfl
          clear hdc
          go_wp2_with fail
          go_ret2
          exact ⟨by rw [hT.out]; rfl, hb⟩
        · have h3' : decide ((s.size : Int) ≤ (k : Int) + 3) = false := by simp; omega
          have i1 : (k : Int) + 1 < (s.size : Int) := by omega
          have i2 : (k : Int) + 2 < (s.size : Int) := by omega
          have i3 : (k : Int) + 3 < (s.size : Int) := by omega
          have e1 := drop_cons s (k + 1) (by omega)
          have e2 := drop_cons s (k + 2) (by omega)
          have e3 := drop_cons s (k + 3) (by omega)
          obtain ⟨x, hx⟩ : ∃ x, s[k + 1] = x := ⟨_, rfl⟩
          obtain ⟨h, hh⟩ : ∃ h, s[k + 2] = h := ⟨_, rfl⟩
          obtain ⟨l, hl⟩ : ∃ l, s[k + 3] = l := ⟨_, rfl⟩
          rw [hx] at e1
          rw [hh] at e2
          rw [hl] at e3
          have hnb : nb (s.data.toList.drop (k + 1)) = (hv x h l).map fun b => (b, s.data.toList.drop (k + 4)) := by
            rw [e1, e2, e3]; rfl
          have hrd3 : Hid (rd s.data.toList = (((hv x h l).map fun b => (b, s.data.toList.drop (k + 4))).bind fun p => (rd p.2).map (p.1 :: ·)).map (X ++ ·)) := by show _ = _; rw [hrd2.out, hnb]
          clear e1 e2 e3 hdc hnb
          by_cases h120 : x = 120
          · have b120 : ((x.toNat : Int) != 120) = false := by rw [h120]; rfl
            obtain ⟨B, hB⟩ : ∃ B, uhI h = B := ⟨_, rfl⟩
            obtain ⟨C, hC⟩ : ∃ C, uhI l = C := ⟨_, rfl⟩
            by_cases hBn : B < 0
            · have hT : Hid (unesc s.data.toList = none) := by
                show _ = _
                unfold unesc
                rw [hrd3.out, hv, if_pos h120, uhI_none (by omega)]; rfl
              clear h120
              go_wp2_with (go_at_call 47; refine (unhex_any h _).mono ?_; rintro e w' ⟨rfl, rfl⟩)
              go_ret2
              exact ⟨by rw [hT.out]; rfl, hb⟩
            · have hBn' : decide (B < 0) = false := by simpa using hBn
              by_cases hCn : C < 0
              · have hT : Hid (unesc s.data.toList = none) := by
                  show _ = _
                  unfold unesc
                  rw [hrd3.out, hv, if_pos h120, uhI_none (c := l) (by omega)]
                  cases uh h <;> rfl
                clear h120
                go_wp2_with (go_at_call 47; refine (unhex_any _ _).mono ?_; rintro e w' ⟨rfl, rfl⟩)
                go_ret2
                exact ⟨by rw [hT.out]; rfl, hb⟩
              · obtain ⟨p, hp1, hp2, hp3⟩ := uhI_some h (by omega)
                obtain ⟨q, hq1, hq2, hq3⟩ := uhI_some l (by omega)
                obtain rfl : B = p := by omega
                obtain rfl : C = q := by omega
                obtain ⟨d, hd⟩ : ∃ d, UInt8.ofNat (16 * p + q) = d := ⟨_, rfl⟩
                have hdI : (16 * (p : Int) + (q : Int)) % 256 = (d.toNat : Int) := by rw [← hd]; simp
                have hrd4 : Hid (rd s.data.toList = (rd (s.data.toList.drop (k + 3 + 1))).map ((X ++ [d]) ++ ·)) := by
                  show _ = _
                  rw [hrd3.out, hv, if_pos h120, hp1, hq1, ← hd]
                  show ((rd (s.data.toList.drop (k + 4))).map (UInt8.ofNat (16 * p + q) :: ·)).map (X ++ ·) = _
                  rw [map_snoc]
                have hBn2 : decide ((p : Int) < 0) = false := by simp
                have hCn2 : decide ((q : Int) < 0) = false := by simp
                clear h120 hp1 hq1 hBn hBn' hCn hp2 hq2 hd
                go_wp2_with (go_at_call 47; refine (unhex_any _ _).mono ?_; rintro e w' ⟨rfl, rfl⟩)
                have wr2 : IntKind.i64.wrap ((k : Int) + 2) = (k : Int) + 2 := by rw [IntKind.wrap_i64]; omega
                have wr3 : IntKind.i64.wrap ((k : Int) + 3) = (k : Int) + 3 := by rw [IntKind.wrap_i64]; omega
                have wm : IntKind.i64.wrap (16 * (p : Int)) = 16 * (p : Int) := by rw [IntKind.wrap_i64]; omega
                have ws : IntKind.i64.wrap (16 * (p : Int) + (q : Int)) = 16 * (p : Int) + (q : Int) := by rw [IntKind.wrap_i64]; omega
                have hraw : Hid (IntKind.u8.wrap (IntKind.i64.wrap (IntKind.i64.wrap (16 * uhI (s[((k : Int) + 2).toNat]'(by omega))) + uhI (s[((k : Int) + 3).toNat]'(by omega)))) = (d.toNat : Int)) := by
                  have t2 : ((k : Int) + 2).toNat = k + 2 := by omega
                  have t3 : ((k : Int) + 3).toNat = k + 3 := by omega
                  have x2 : s[((k : Int) + 2).toNat]'(by omega) = h := by simp only [t2]; exact hh
                  have x3 : s[((k : Int) + 3).toNat]'(by omega) = l := by simp only [t3]; exact hl
                  show _ = _
                  rw [x2, x3, hB, hC, wm, ws]
                  exact hdI
                have j2 : (0 : Int) ≤ (k : Int) + 2 := by omega
                have j3 : (0 : Int) ≤ (k : Int) + 3 := by omega
                go_region_held3 (fun _ => True) (trivial)
                  ((first
                    | (go_at_call 47; refine (unhex_any _ _).mono ?_; rintro e w' ⟨rfl, rfl⟩)
                    | (refine step_append_lies _ (by rfl) _ _ _ (by rfl) w.heap.size 5 i0 _ 1 1 Tryd.underlying51 hinf hz0 hz1 hz2 rfl (by omega) _ _ _ (by rfl) ((hown.out.alloc _).drew) ⟨_, 0, none⟩ 1 1 [_] (by rfl) (by rfl) (World.news_of_block (cs := #[_]) (t := 5) (fr := (0, 0)) (heap_alloc_new _ _)) (by simp [Value.oneCell']) (by omega) (by unfold maxLen; omega) (by omega) (by simp; omega) _ rfl ?_; intro g cap w3 hown' hgrow hat hlt')))
                all_goals
                  rw [hraw.out] at hown'
                  have hb4 : Below w.heap.size w w3 := ((hb.alloc hb.size _).drew).grown hgrow (by simp; omega) (fun k e => (hown.out.lt k e).1)
                  go_wp2_with fail
                  exact ⟨⟨k + 3 + 1, X ++ [d], by omega, by go_num, by simp; omega, hrd4, by rw [byteCells_snoc, List.length_append]; exact hown', hb4⟩, by simp [intOf]; omega⟩
          · have b120 : ((x.toNat : Int) != 120) = true := by
              simp only [bne_iff_ne, ne_eq]
              intro e
              exact h120 (UInt8.toNat_inj.1 (by simp; omega))
            have hT : Hid (unesc s.data.toList = none) := by
              show _ = _
              unfold unesc
              rw [hrd3.out, hv, if_neg h120]; rfl
            clear h120
            go_wp2_with fail
            go_ret2
            exact ⟨by rw [hT.out]; rfl, hb⟩
      · have h92' : ((c.toNat : Int) == 92) = false := by
          have : ¬ (c.toNat : Int) = 92 := fun e => h92 (UInt8.toNat_inj.1 (by simp; omega))
          simpa using this
        by_cases h45 : c = 45
        · have h45' : ((c.toNat : Int) == 45) = true := by rw [h45]; rfl
          have hT : Hid (rd s.data.toList = (rd (s.data.toList.drop (k + 1))).map ((X ++ [47]) ++ ·)) := by
            show _ = _
            rw [hrd.out, hdc, rd_plain _ _ h92, if_pos h45, map_snoc]
          have hr1 := hown.out.alloc (.cells #[.int .u8 47] 5)
          clear h92 h45 hdc
          go_wp2_with (at_builtin; refine wpList_append_own_at _ rfl _ _ 51 rfl w.heap.size 5 i0 (.int .u8 0) 1 1 Tryd.underlying51 hinf hz0 hz1 hz2 rfl (by decide) _ _ _ rfl hr1 ⟨_, 0, none⟩ 1 1 [.int .u8 47] rfl rfl (row_news1 _ _ _) (fun x hx => by simp at hx; rcases hx with rfl <;> rfl) (by unfold maxLen; omega) (by omega) (by simp; omega) ?_; intro v' w3 hown' hgrow _ _)
          have hb4 : Below w.heap.size w w3 := (hb.alloc hwz _).grown hgrow (by simp; omega) (fun k e => (hr1.lt k e).1)
          exact ⟨⟨k + 1, X ++ [47], by omega, by go_num, by simp; omega, hT, by rw [byteCells_snoc, List.length_append]; exact hown', hb4⟩, by simp [intOf]; omega⟩
        · have h45' : ((c.toNat : Int) == 45) = false := by
            have : ¬ (c.toNat : Int) = 45 := fun e => h45 (UInt8.toNat_inj.1 (by simp; omega))
            simpa using this
          have hT : Hid (rd s.data.toList = (rd (s.data.toList.drop (k + 1))).map ((X ++ [c]) ++ ·)) := by
            show _ = _
            rw [hrd.out, hdc, rd_plain _ _ h92, if_neg h45, map_snoc]
          have hr1 := hown.out.alloc (.cells #[.int .u8 c.toNat] 5)
          clear h92 h45 hdc
          go_wp2_with (at_builtin; refine wpList_append_own_at _ rfl _ _ 51 rfl w.heap.size 5 i0 (.int .u8 0) 1 1 Tryd.underlying51 hinf hz0 hz1 hz2 rfl (by decide) _ _ _ rfl hr1 ⟨_, 0, none⟩ 1 1 [.int .u8 c.toNat] rfl rfl (row_news1 _ _ _) (fun x hx => by simp at hx; rcases hx with rfl <;> rfl) (by unfold maxLen; omega) (by omega) (by simp; omega) ?_; intro v' w3 hown' hgrow _ _)
          have hb4 : Below w.heap.size w w3 := (hb.alloc hwz _).grown hgrow (by simp; omega) (fun k e => (hr1.lt k e).1)
          exact ⟨⟨k + 1, X ++ [c], by omega, by go_num, by simp; omega, hT, by rw [byteCells_snoc, List.length_append]; exact hown', hb4⟩, by simp [intOf]; omega⟩
    · obtain rfl : k = s.size := by omega
      have hrX : rd s.data.toList = some X := by
        rw [hrd.out, List.drop_of_length_le (by rw [size_list]; omega), rd_nil]; simp
      have hcv := conv_row hown.out
      obtain ⟨T, hTl, hTz, hTe⟩ := letters X
      rw [hTe] at hcv
      have hTs : T.size ≤ 1000000 := by rw [hTz]; omega
      obtain ⟨Y, hY, hYz, hYe⟩ := letters (esc X)
      have hes : Hid (∀ w, Calls Tryd.prog 21 #[.string T] w fun e w' => e = .returned (.string Y) ∧ Below w.heap.size w w') := by
        intro w
        have := rescape_any T w hTs
        rw [hTl, hYe] at this
        exact this
      have hU : Hid (unesc s.data.toList = if (Y.toList == s.toList) = true then some T.data.toList else none) := by
        show _ = _
        unfold unesc
        rw [hrX, Lib.toList_data, Lib.toList_data, hY, hTl]
        simp
      have hcvB : ∀ W, Below wr.heap.size wr W → (convert 51 9 u4).run Tryd.prog W = .ok (.string T) W := fun W hW => by
        have := conv_row (hown.out.kept (row := none) ⟨hW.os, hW.tape, hW.output, hW.size, fun k hk _ => hW.block k hk⟩ (by cases hv : u4.ownBlock with | none => exact .inl rfl | some g => exact .inr (by simp)))
        rw [hTe] at this
        exact this
      have hcvB' : Hid _ := hcvB
      clear hrX hTl hTz hTe hY hYz hYe hcvB
      cases hq : (Y.toList == s.toList)
      · have hq' : (Y.toList != s.toList) = true := by rw [bne, hq]; rfl
        have hU2 : Hid (unesc s.data.toList = none) := by show _ = _; rw [hU.out, hq]; rfl
        go_wp2_with fail
        refine (hes.out _).mono ?_
        rintro e w2 ⟨rfl, hb2⟩
        go_wp2_with fail
        go_ret2
        exact ⟨by rw [hU2.out]; rfl, hb.trans (hb2.mono hb.size)⟩
      · have hq' : (Y.toList != s.toList) = false := by rw [bne, hq]; rfl
        have hU2 : Hid (unesc s.data.toList = some T.data.toList) := by show _ = _; rw [hU.out, hq]; rfl
        go_wp2_with fail
        refine (hes.out _).mono ?_
        rintro e w2 ⟨rfl, hb2⟩
        have hcv2 := hcvB'.out w2 hb2
        go_wp2_with fail
        go_ret2
        exact ⟨by rw [strE_of hU2.out]; rfl, hb.trans (hb2.mono hb.size)⟩
end Go.Proofs.YtimmieelpaoncaaDoor
