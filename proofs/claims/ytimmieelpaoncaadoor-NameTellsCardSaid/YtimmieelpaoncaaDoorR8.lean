/- The contract of the reference's OfPath. -/
import Derived.Test.YtimmieelpaoncaaDoorR7
import Derived.Test.YtimmieelpaoncaaDoorB4
namespace Go.Proofs.YtimmieelpaoncaaDoor
open Go.RowKit Nam
/-- Where the loop of 'OfPath' stands: from where the part begins, to where it has been looked at. -/
def Opl (p : L) (f i : Nat) : Prop := (i ≤ p.length ∧ 1 ≤ f ∧ f ≤ i ∧ okAll (pieces (p.drop 1)) = okAll (pieces (p.drop f)) ∧ ∀ c ∈ (p.drop f).take (i - f), c ≠ 47) ∨ (i = p.length + 1 ∧ okAll (pieces (p.drop 1)) = true)
theorem opl_go {p : L} {f i : Nat} {c : UInt8} (h : Opl p f i) (hi : p[i]? = some c) (hc : c ≠ 47) : Opl p f (i + 1) := by
  have hlt := (List.getElem?_eq_some_iff.1 hi).1
  rcases h with ⟨h1, h2, h3, h4, h5⟩ | ⟨h1, _⟩
  · refine .inl ⟨by omega, h2, by omega, h4, ?_⟩
    rw [show i + 1 - f = (i - f) + 1 by omega, List.take_add_one]
    intro x hx
    rcases List.mem_append.1 hx with hx | hx
    · exact h5 x hx
    · rw [List.getElem?_drop, show f + (i - f) = i by omega, hi] at hx
      have : x = c := by simpa using hx
      rw [this]; exact hc
  · omega
theorem opl_split {p : L} {f i : Nat} (h : Opl p f i) (hi : p[i]? = some 47) : okAll (pieces (p.drop 1)) = (okp ((p.drop f).take (i - f)) && okAll (pieces (p.drop (i + 1)))) ∧ f ≤ i := by
  have hlt := (List.getElem?_eq_some_iff.1 hi).1
  rcases h with ⟨h1, h2, h3, h4, h5⟩ | ⟨h1, _⟩
  · refine ⟨?_, h3⟩
    have : p.drop f = (p.drop f).take (i - f) ++ 47 :: p.drop (i + 1) := by
      have e : (p.drop f).drop (i - f) = 47 :: p.drop (i + 1) := by
        rw [List.drop_drop, show f + (i - f) = i by omega, List.drop_eq_getElem_cons hlt]
        have := (List.getElem?_eq_some_iff.1 hi).2
        rw [this]
      rw [← e, List.take_append_drop]
    rw [h4]
    conv => lhs; rw [this]
    rw [pieces_split _ _ h5, okAll_cons]
  · omega
theorem opl_next {p : L} {i : Nat} (hi : i < p.length) (h : okAll (pieces (p.drop 1)) = okAll (pieces (p.drop (i + 1)))) : Opl p (i + 1) (i + 1) :=
  .inl ⟨by omega, by omega, by omega, h, by simp⟩
theorem opl_end {p : L} {f : Nat} (h : Opl p f p.length) : okAll (pieces (p.drop 1)) = okp ((p.drop f).take (p.length - f)) ∧ f ≤ p.length := by
  rcases h with ⟨h1, h2, h3, h4, h5⟩ | ⟨h1, _⟩
  · have e : (p.drop f).take (p.length - f) = p.drop f := List.take_of_length_le (by rw [List.length_drop]; exact Nat.le_refl _)
    rw [e] at h5 ⊢
    refine ⟨?_, h3⟩
    rw [h4, pieces_none _ h5, okAll_cons]
    show (okp _ && true) = _
    rw [Bool.and_true]
  · omega
theorem opl_done {p : L} {f i : Nat} (h : Opl p f i) (hi : ¬ i ≤ p.length) : okAll (pieces (p.drop 1)) = true := by
  rcases h with ⟨h1, _⟩ | ⟨_, h2⟩
  · omega
  · exact h2
set_option maxHeartbeats 4000000 in
/-- The reference's OfPath from its second half on: p begins with a stroke. -/
theorem ofPath_ref {s : L} {c : UInt8} {r : L} (hs : s = c :: r) : ofPath s = if s = [47] then some [45] else if c = 47 then (if okAll (pieces (Lib.trimSuffix r [47])) then some (esc (Lib.trimSuffix r [47])) else none) else none := by
  subst hs; rfl
theorem trim_yes {r : L} (h : Lib.hasSuffix r [47] = true) : Lib.trimSuffix r [47] = r.take (r.length - 1) := by unfold Lib.trimSuffix; rw [if_pos h]; rfl
theorem trim_no {r : L} (h : Lib.hasSuffix r [47] = false) : Lib.trimSuffix r [47] = r := by unfold Lib.trimSuffix; rw [if_neg (by rw [h]; simp)]
theorem suf_last (l : L) (n : Nat) (h : l.length = n + 1) (c : UInt8) (hc : l[n]? = some c) : Lib.hasSuffix l [47] = (c == 47) := by
  have : Lib.hasSuffix l [47] = (decide (1 ≤ l.length) && (l.drop (l.length - 1) == [47])) := (Lib.hasSuffix_of_drop l [47]).symm
  rw [this, h]
  have e : l.drop (n + 1 - 1) = [c] := by
    have hlt : n < l.length := by omega
    rw [Nat.add_sub_cancel, List.drop_eq_getElem_cons hlt, (List.getElem?_eq_some_iff.1 hc).2, List.drop_of_length_le (by omega)]
  rw [e]
  simp
set_option maxRecDepth 100000 in
set_option maxHeartbeats 4000000 in
theorem rofPath_any (s : ByteArray) (w : World) (hs : s.size ≤ 900000) :
    Calls Tryd.prog 27 #[.string s] w fun e w' => e = .returned (strE (ofPath s.data.toList) 41) ∧ Below w.heap.size w w' := by
  by_cases h0 : s.size = 0
  · have hR : Hid (ofPath s.data.toList = none) := by
      show _ = _
      have : s.data.toList = [] := List.length_eq_zero_iff.1 (by rw [size_list]; exact h0)
      rw [this]; rfl
    have h0' : ((s.size : Int) == 0) = true := by rw [h0]; rfl
    clear h0
    go_enter Tryd.func27, Tryd.ntmps27
    go_wp2_with fail
    go_ret2
    exact ⟨by rw [hR.out]; rfl, Below.refl _ _⟩
  have h0' : ((s.size : Int) == 0) = false := by rw [beq_eq_false_iff_ne]; omega
  have hpos : 0 < s.size := by omega
  have hpI : (0 : Int) < (s.size : Int) := by omega
  have hdc := drop_cons s 0 hpos
  rw [List.drop_zero] at hdc
  obtain ⟨c, hc⟩ : ∃ c, s[0] = c := ⟨_, rfl⟩
  rw [hc] at hdc
  have hof := ofPath_ref hdc
  clear h0
  by_cases h47 : c = 47
  · have b47 : ((c.toNat : Int) != 47) = false := by rw [h47]; rfl
    cases h1 : (s.toList == [47])
    · have hne : s.data.toList ≠ [47] := by rw [Lib.toList_data] at h1; simpa using h1
      rw [if_neg hne, if_pos h47] at hof
      have hs2 : 2 ≤ s.size := by
        rcases Nat.lt_or_ge s.size 2 with h | h
        · exfalso
          apply hne
          rw [hdc, h47, List.drop_of_length_le (by rw [size_list]; omega)]
        · exact h
      obtain ⟨n, hn⟩ : ∃ n, s.size = n + 2 := ⟨s.size - 2, by omega⟩
      have hlt1 : n + 1 < s.size := by omega
      have hlast : (s.data.toList.drop 1)[n]? = some s[n + 1] := by
        rw [List.getElem?_drop, show 1 + n = n + 1 by omega]; exact get_list s (n + 1) hlt1
      obtain ⟨d, hd⟩ : ∃ d, s[n + 1] = d := ⟨_, rfl⟩
      rw [hd] at hlast
      have hsuf := suf_last (s.data.toList.drop 1) n (by rw [List.length_drop, size_list]; omega) d hlast
      obtain ⟨P, hPl, hPs, hwalk⟩ : ∃ P : ByteArray, P.data.toList.drop 1 = Lib.trimSuffix (s.data.toList.drop 1) [47] ∧ P.size ≤ s.size ∧ 1 ≤ P.size ∧ (if d = 47 then s.extract 0 (n + 1) = P else s = P) := by
        by_cases hd47 : d = 47
        · refine ⟨s.extract 0 (n + 1), ?_, ?_, ?_, by rw [if_pos hd47]⟩
          · rw [trim_yes (by rw [hsuf, hd47]; rfl), Lib.extract_data, List.drop_zero, List.length_drop, size_list]
            rw [List.drop_take, show s.size - 1 - 1 = n + 1 - 0 - 1 by omega]
          · rw [← size_list, ← size_list, Lib.extract_data, List.length_take, List.length_drop]; omega
          · rw [← size_list, Lib.extract_data, List.length_take, List.length_drop, size_list]; omega
        · refine ⟨s, ?_, Nat.le_refl _, by omega, by rw [if_neg hd47]⟩
          rw [trim_no (by rw [hsuf]; simpa using hd47)]
      rw [← hPl] at hof
      obtain ⟨hP1, hex⟩ := hwalk
      obtain ⟨Q, hQl, hQz, hQe⟩ := letters (P.data.toList.drop 1)
      have hxQ : P.extract 1 P.size = Q := by
        rw [← hQe, Lib.extract_eq, List.take_of_length_le (by rw [List.length_drop, size_list]; exact Nat.le_refl _)]
      obtain ⟨X, hXl, hXz, hXe⟩ := letters (esc Q.data.toList)
      have hes : Hid (∀ w, Calls Tryd.prog 21 #[.string Q] w fun e w' => e = .returned (.string X) ∧ Below w.heap.size w w') := by
        intro w
        have := rescape_any Q w (by rw [hQz, List.length_drop, size_list]; omega)
        rw [hXe] at this
        exact this
      have hofN : Hid (okAll (pieces (P.data.toList.drop 1)) = false → ofPath s.data.toList = none) := fun h => by rw [hof, h]; rfl
      have hofY : Hid (okAll (pieces (P.data.toList.drop 1)) = true → ofPath s.data.toList = some X.data.toList) := fun h => by rw [hof, h, hXl, hQl]; rfl
      have hPI : (1 : Int) ≤ (P.size : Int) := by omega
      have hnI : (s.size : Int) - 1 = (n : Int) + 1 := by omega
      have hnlt : (n : Int) + 1 < (s.size : Int) := by omega
      have hHn : Hid (s.size = n + 2) := hn
      clear hof hPl hQl hQz hQe hXl hXz hXe hdc hne hlast hsuf h47 hn hs2
      have hPz : P.size ≤ 900000 := by omega
      by_cases hd47 : d = 47
      · have hd' : (d.toNat : Int) = 47 := by rw [hd47]; rfl
        rw [if_pos hd47] at hex
        clear hd47
        go_enter Tryd.func27, Tryd.ntmps27
        go_wp2_with fail
        go_loop [4, 5] (fun f i => ∃ a b : Nat, a ≤ b ∧ 1 ≤ a ∧ b ≤ P.size + 1 ∧ f = .int .i64 a ∧ i = .int .i64 b ∧ Hid (Opl P.data.toList a b)) (fun _ i => P.size + 1 - (intOf i).toNat)
        case atStart => exact ⟨1, 1, by omega, by omega, by omega, rfl, rfl, .inl ⟨by rw [size_list]; omega, by omega, by omega, rfl, by simp⟩⟩
        case round =>
          obtain ⟨a, b, hab, ha1, hbz, rfl, rfl, ho⟩ := hrel
          by_cases hbP : b ≤ P.size
          · by_cases hlt : b < P.size
            · have hgb := get_list P b hlt
              obtain ⟨g, hg⟩ : ∃ g, P[b] = g := ⟨_, rfl⟩
              rw [hg] at hgb
              by_cases hg47 : g = 47
              · have bg : ((g.toNat : Int) != 47) = false := by rw [hg47]; rfl
                obtain ⟨hsp, _⟩ := opl_split ho.out (by rw [hgb, hg47])
                obtain ⟨V, hVl, _, hVe⟩ := letters ((P.data.toList.drop a).take (b - a))
                have hxV : P.extract a b = V := by rw [Lib.extract_eq, hVe]
                rw [← hVl] at hsp
                have hnx : Hid (okp V.data.toList = true → Opl P.data.toList (b + 1) (b + 1)) := fun h => opl_next (by rw [size_list]; exact hlt) (by rw [hsp, h]; rfl)
                have hbd : Hid (okp V.data.toList = false → ofPath s.data.toList = none) := fun h => hofN.out (by rw [hsp, h]; rfl)
                have iab : (a : Int) ≤ (b : Int) := by omega
                have ibP : (b : Int) ≤ (P.size : Int) := by omega
                clear hsp hVl hVe hgb hg47
                cases t0 : (V.toList == [])
                · cases t1 : (V.toList == [46])
                  · cases t2 : (V.toList == [46, 46])
                    · have hok := hnx.out (by rw [okp, ← Lib.toList_data, t0, t1, t2]; rfl)
                      go_wp2_with fail
                      exact ⟨⟨b + 1, b + 1, by omega, by omega, by omega, by go_num, by go_num, hok⟩, by simp [intOf]; omega⟩
                    · have hR : Hid (ofPath s.data.toList = none) := hbd.out (by rw [okp, ← Lib.toList_data, t2]; simp)
                      go_wp2_with fail
                      go_ret2
                      exact ⟨by rw [hR.out]; rfl, Below.refl _ _⟩
                  · have hR : Hid (ofPath s.data.toList = none) := hbd.out (by rw [okp, ← Lib.toList_data, t1]; simp)
                    go_wp2_with fail
                    go_ret2
                    exact ⟨by rw [hR.out]; rfl, Below.refl _ _⟩
                · have hR : Hid (ofPath s.data.toList = none) := hbd.out (by rw [okp, ← Lib.toList_data, t0]; simp)
                  go_wp2_with fail
                  go_ret2
                  exact ⟨by rw [hR.out]; rfl, Below.refl _ _⟩
              · have bg : ((g.toNat : Int) != 47) = true := by
                  simp only [bne_iff_ne, ne_eq]
                  intro e
                  exact hg47 (UInt8.toNat_inj.1 (by simp; omega))
                have ho2 : Hid (Opl P.data.toList a (b + 1)) := opl_go ho.out hgb hg47
                clear hgb hg47
                go_wp2_with fail
                exact ⟨⟨a, b + 1, by omega, by omega, by omega, rfl, by go_num, ho2⟩, by simp [intOf]; omega⟩
            · obtain rfl : b = P.size := by omega
              have ho2 := ho.out
              rw [← size_list] at ho2
              obtain ⟨hsp, _⟩ := opl_end ho2
              obtain ⟨V, hVl, _, hVe⟩ := letters ((P.data.toList.drop a).take (P.data.toList.length - a))
              have hxV : P.extract a P.size = V := by rw [Lib.extract_eq, ← hVe, size_list]
              rw [← hVl] at hsp
              have hnx : Hid (okp V.data.toList = true → Opl P.data.toList (P.size + 1) (P.size + 1)) := fun h => .inr ⟨by rw [size_list], by rw [hsp, h]⟩
              have hbd : Hid (okp V.data.toList = false → ofPath s.data.toList = none) := fun h => hofN.out (by rw [hsp, h])
              have iab : (a : Int) ≤ (P.size : Int) := by omega
              clear hsp hVl hVe ho2
              cases t0 : (V.toList == [])
              · cases t1 : (V.toList == [46])
                · cases t2 : (V.toList == [46, 46])
                  · have hok := hnx.out (by rw [okp, ← Lib.toList_data, t0, t1, t2]; rfl)
                    go_wp2_with fail
                    exact ⟨⟨P.size + 1, P.size + 1, by omega, by omega, by omega, by go_num, by go_num, hok⟩, by simp [intOf]⟩
                  · have hR : Hid (ofPath s.data.toList = none) := hbd.out (by rw [okp, ← Lib.toList_data, t2]; simp)
                    go_wp2_with fail
                    go_ret2
                    exact ⟨by rw [hR.out]; rfl, Below.refl _ _⟩
                · have hR : Hid (ofPath s.data.toList = none) := hbd.out (by rw [okp, ← Lib.toList_data, t1]; simp)
                  go_wp2_with fail
                  go_ret2
                  exact ⟨by rw [hR.out]; rfl, Below.refl _ _⟩
              · have hR : Hid (ofPath s.data.toList = none) := hbd.out (by rw [okp, ← Lib.toList_data, t0]; simp)
                go_wp2_with fail
                go_ret2
                exact ⟨by rw [hR.out]; rfl, Below.refl _ _⟩
          · have hR : Hid (ofPath s.data.toList = some X.data.toList) := hofY.out (opl_done ho.out (by rw [size_list]; exact hbP))
            go_wp2_with fail
            refine (hes.out _).mono ?_
            rintro e w2 ⟨rfl, hb2⟩
            go_wp2_with fail
            go_ret2
            exact ⟨by rw [strE_of hR.out]; rfl, hb2⟩
      · have hd' : ¬ (d.toNat : Int) = 47 := fun e => hd47 (UInt8.toNat_inj.1 (by simp; omega))
        rw [if_neg hd47] at hex
        subst hex
        clear hd47
        go_enter Tryd.func27, Tryd.ntmps27
        go_wp2_with fail
        go_loop [4, 5] (fun f i => ∃ a b : Nat, a ≤ b ∧ 1 ≤ a ∧ b ≤ s.size + 1 ∧ f = .int .i64 a ∧ i = .int .i64 b ∧ Hid (Opl s.data.toList a b)) (fun _ i => s.size + 1 - (intOf i).toNat)
        case atStart => exact ⟨1, 1, by omega, by omega, by omega, rfl, rfl, .inl ⟨by rw [size_list]; omega, by omega, by omega, rfl, by simp⟩⟩
        case round =>
          obtain ⟨a, b, hab, ha1, hbz, rfl, rfl, ho⟩ := hrel
          by_cases hbP : b ≤ s.size
          · by_cases hlt : b < s.size
            · have hgb := get_list s b hlt
              obtain ⟨g, hg⟩ : ∃ g, s[b] = g := ⟨_, rfl⟩
              rw [hg] at hgb
              by_cases hg47 : g = 47
              · have bg : ((g.toNat : Int) != 47) = false := by rw [hg47]; rfl
                obtain ⟨hsp, _⟩ := opl_split ho.out (by rw [hgb, hg47])
                obtain ⟨V, hVl, _, hVe⟩ := letters ((s.data.toList.drop a).take (b - a))
                have hxV : s.extract a b = V := by rw [Lib.extract_eq, hVe]
                rw [← hVl] at hsp
                have hnx : Hid (okp V.data.toList = true → Opl s.data.toList (b + 1) (b + 1)) := fun h => opl_next (by rw [size_list]; exact hlt) (by rw [hsp, h]; rfl)
                have hbd : Hid (okp V.data.toList = false → ofPath s.data.toList = none) := fun h => hofN.out (by rw [hsp, h]; rfl)
                have iab : (a : Int) ≤ (b : Int) := by omega
                have ibP : (b : Int) ≤ (s.size : Int) := by omega
                clear hsp hVl hVe hgb hg47
                cases t0 : (V.toList == [])
                · cases t1 : (V.toList == [46])
                  · cases t2 : (V.toList == [46, 46])
                    · have hok := hnx.out (by rw [okp, ← Lib.toList_data, t0, t1, t2]; rfl)
                      go_wp2_with fail
                      exact ⟨⟨b + 1, b + 1, by omega, by omega, by omega, by go_num, by go_num, hok⟩, by simp [intOf]; omega⟩
                    · have hR : Hid (ofPath s.data.toList = none) := hbd.out (by rw [okp, ← Lib.toList_data, t2]; simp)
                      go_wp2_with fail
                      go_ret2
                      exact ⟨by rw [hR.out]; rfl, Below.refl _ _⟩
                  · have hR : Hid (ofPath s.data.toList = none) := hbd.out (by rw [okp, ← Lib.toList_data, t1]; simp)
                    go_wp2_with fail
                    go_ret2
                    exact ⟨by rw [hR.out]; rfl, Below.refl _ _⟩
                · have hR : Hid (ofPath s.data.toList = none) := hbd.out (by rw [okp, ← Lib.toList_data, t0]; simp)
                  go_wp2_with fail
                  go_ret2
                  exact ⟨by rw [hR.out]; rfl, Below.refl _ _⟩
              · have bg : ((g.toNat : Int) != 47) = true := by
                  simp only [bne_iff_ne, ne_eq]
                  intro e
                  exact hg47 (UInt8.toNat_inj.1 (by simp; omega))
                have ho2 : Hid (Opl s.data.toList a (b + 1)) := opl_go ho.out hgb hg47
                clear hgb hg47
                go_wp2_with fail
                exact ⟨⟨a, b + 1, by omega, by omega, by omega, rfl, by go_num, ho2⟩, by simp [intOf]; omega⟩
            · obtain rfl : b = s.size := by omega
              have ho2 := ho.out
              rw [← size_list] at ho2
              obtain ⟨hsp, _⟩ := opl_end ho2
              obtain ⟨V, hVl, _, hVe⟩ := letters ((s.data.toList.drop a).take (s.data.toList.length - a))
              have hxV : s.extract a s.size = V := by rw [Lib.extract_eq, ← hVe, size_list]
              rw [← hVl] at hsp
              have hnx : Hid (okp V.data.toList = true → Opl s.data.toList (s.size + 1) (s.size + 1)) := fun h => .inr ⟨by rw [size_list], by rw [hsp, h]⟩
              have hbd : Hid (okp V.data.toList = false → ofPath s.data.toList = none) := fun h => hofN.out (by rw [hsp, h])
              have iab : (a : Int) ≤ (s.size : Int) := by omega
              clear hsp hVl hVe ho2
              cases t0 : (V.toList == [])
              · cases t1 : (V.toList == [46])
                · cases t2 : (V.toList == [46, 46])
                  · have hok := hnx.out (by rw [okp, ← Lib.toList_data, t0, t1, t2]; rfl)
                    go_wp2_with fail
                    exact ⟨⟨s.size + 1, s.size + 1, by omega, by omega, by omega, by go_num, by go_num, hok⟩, by simp [intOf]⟩
                  · have hR : Hid (ofPath s.data.toList = none) := hbd.out (by rw [okp, ← Lib.toList_data, t2]; simp)
                    go_wp2_with fail
                    go_ret2
                    exact ⟨by rw [hR.out]; rfl, Below.refl _ _⟩
                · have hR : Hid (ofPath s.data.toList = none) := hbd.out (by rw [okp, ← Lib.toList_data, t1]; simp)
                  go_wp2_with fail
                  go_ret2
                  exact ⟨by rw [hR.out]; rfl, Below.refl _ _⟩
              · have hR : Hid (ofPath s.data.toList = none) := hbd.out (by rw [okp, ← Lib.toList_data, t0]; simp)
                go_wp2_with fail
                go_ret2
                exact ⟨by rw [hR.out]; rfl, Below.refl _ _⟩
          · have hR : Hid (ofPath s.data.toList = some X.data.toList) := hofY.out (opl_done ho.out (by rw [size_list]; exact hbP))
            go_wp2_with fail
            refine (hes.out _).mono ?_
            rintro e w2 ⟨rfl, hb2⟩
            go_wp2_with fail
            go_ret2
            exact ⟨by rw [strE_of hR.out]; rfl, hb2⟩
    · have hR : Hid (ofPath s.data.toList = some [45]) := by
        show _ = _
        rw [Lib.toList_data] at h1
        rw [hof, if_pos (by simpa using h1)]
      clear hof hdc h47
      go_enter Tryd.func27, Tryd.ntmps27
      go_wp2_with fail
      go_ret2
      exact ⟨by rw [hR.out]; rfl, Below.refl _ _⟩
  · have b47 : ((c.toNat : Int) != 47) = true := by
      simp only [bne_iff_ne, ne_eq]
      intro e
      exact h47 (UInt8.toNat_inj.1 (by simp; omega))
    have hR : Hid (ofPath s.data.toList = none) := by
      show _ = _
      rw [hof, if_neg (by rw [hdc]; intro e; exact h47 (List.cons.inj e).1), if_neg h47]
    clear hof hdc h47
    go_enter Tryd.func27, Tryd.ntmps27
    go_wp2_with fail
    go_ret2
    exact ⟨by rw [hR.out]; rfl, Below.refl _ _⟩
end Go.Proofs.YtimmieelpaoncaaDoor
