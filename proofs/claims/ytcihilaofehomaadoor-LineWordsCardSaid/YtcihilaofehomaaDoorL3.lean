/- The walk of the law LineWords. -/
import Derived.Test.YtcihilaofehomaaDoorK1
import Derived.Test.YtcihilaofehomaaDoorL1
namespace Go.Proofs.YtcihilaofehomaaDoor
open Go.RowKit Lin
def gb (r : Nat) : L := [[32], [9], [32, 32, 9, 32], [9, 9]].getD r [32]
theorem gb_bl (r : Nat) : gb r ≠ [] ∧ (∀ c ∈ gb r, bl c = true) ∧ (gb r).length ≤ 4 := by
  unfold gb
  match r with
  | 0 => decide
  | 1 => decide
  | 2 => decide
  | 3 => decide
  | n + 4 => simp; decide
def pr (zs : List ByteArray) (us : List Nat) (j : Nat) : L × L := ((zs.getD j ByteArray.empty).data.toList, gb (us.getD (j + 1) 0 % 4))
def prs' (zs : List ByteArray) (us : List Nat) (k : Nat) : List (L × L) := (List.range k).map (pr zs us)
theorem prs_succ (zs : List ByteArray) (us : List Nat) (k : Nat) : prs' zs us (k + 1) = prs' zs us k ++ [pr zs us k] := by unfold prs'; rw [List.range_succ, List.map_append]; rfl
theorem prs_all (zs : List ByteArray) (us : List Nat) : (prs' zs us zs.length).map (·.1) = lists zs := by
  apply List.ext_getElem?
  intro j
  unfold prs' lists
  rw [List.map_map, List.getElem?_map, List.getElem?_map]
  by_cases h : j < zs.length
  · rw [List.getElem?_range h, List.getElem?_eq_getElem h]
    simp [pr, h]
  · rw [List.getElem?_eq_none (by simp; omega), List.getElem?_eq_none (by omega)]
    rfl
theorem ws_le : ∀ (l : List (L × L)), (∀ p ∈ l, p.1.length ≤ 40 ∧ p.2.length ≤ 4) → (ws l).length ≤ l.length * 44
  | [], _ => by simp [ws]
  | p :: l, h => by
    have h1 := ws_le l (fun q hq => h q (by simp [hq]))
    have h2 := h p (by simp)
    simp only [ws, List.length_append, List.length_cons, Nat.add_mul]; omega
theorem bl_int {c : UInt8} (h : bl c = false) : ((c.toNat : Int) == 32) = false ∧ ((c.toNat : Int) == 9) = false := by
  have := (bl_no c).1 h
  exact ⟨beq8 c 32 this.1, beq8 c 9 this.2⟩
theorem bl_yes {c : UInt8} (h : bl c = true) : (c.toNat : Int) = 32 ∨ (((c.toNat : Int) == 32) = false ∧ (c.toNat : Int) = 9) := by
  rcases (bl_iff c).1 h with e | e
  · left; rw [e]; rfl
  · right; rw [e]; exact ⟨rfl, rfl⟩
set_option maxRecDepth 100000 in
set_option maxHeartbeats 4000000 in
theorem words_walk (a : Option Addr) (b o len cap : Nat) (zs : List ByteArray) (a1 : Option Addr) (b1 o1 len1 cap1 : Nat) (us : List Nat) (w : World) (hg : Mx w) (ha : 0 < len → a = some ⟨b, o, none⟩) (hzl : zs.length = len) (hc : ∀ j x, zs[j]? = some x → w.cell? ⟨b, o + j, none⟩ = some (.string x)) (hs : ∀ x ∈ zs, x.size ≤ maxLen) (hl : len ≤ maxLen)
    (ha1 : 0 < len1 → a1 = some ⟨b1, o1, none⟩) (hul : us.length = len1) (hc1 : ∀ (j u : Nat), us[j]? = some u → w.cell? ⟨b1, o1 + j, none⟩ = some (.int .u8 u)) (hu : ∀ u ∈ us, u ≤ 255) (hl1 : len1 ≤ maxLen) :
    Calls Tryd.prog 8 #[.slice a len cap, .slice a1 len1 cap1] w fun e w' => e = .returned (.bool true) ∧ Below w.heap.size w w' := by
  have hkn := known_any w hg
  have hsh := fun (w1 : World) (hb : Below w.heap.size w w1) => short_any 20 40 a b o cap zs w1 (by rw [hzl]; exact ha) (fun j x hj => (hb.cell (p := ⟨b, o + j, none⟩) (cell_lt (hc j x hj))).trans (hc j x hj)) hs (by rw [hzl]; exact hl)
  rw [hzl] at hsh
  have hl1' : len1 ≤ 9223372036854775807 := by unfold maxLen at hl1; omega
  have hcH : Hid (∀ j x, zs[j]? = some x → w.cell? ⟨b, o + j, none⟩ = some (.string x)) := hc
  have hc1H : Hid (∀ (j u : Nat), us[j]? = some u → w.cell? ⟨b1, o1 + j, none⟩ = some (.int .u8 u)) := hc1
  have hzlH : Hid (zs.length = len) := hzl
  have hulH : Hid (us.length = len1) := hul
  have huH : Hid (∀ u ∈ us, u ≤ 255) := hu
  by_cases hq : zs.length ≤ 20 ∧ ∀ x ∈ zs, x.size ≤ 40
  · have hqH : Hid (∀ x ∈ zs, x.size ≤ 40) := hq.2
    have hlen : len ≤ 20 := by rw [← hzl]; exact hq.1
    by_cases hgl : len1 < len + 1
    · have hgI : (len1 : Int) < (len : Int) + 1 := by omega
      clear hq hc hs hl hzl hc1 hul hu hl1
      go_enter Tryd.func8, Tryd.ntmps8
      go_wp2_with fail
      refine hkn.mono ?_
      rintro e w1 ⟨rfl, hb1⟩
      go_wp2_with fail
      refine (hsh w1 hb1).mono ?_
      rintro e w2 ⟨q, rfl, _, hb2⟩
      have hb12 := hb1.trans (hb2.mono hb1.size)
      clear hsh hkn
      cases q
      · go_wp2_with fail
        go_ret
        exact ⟨rfl, hb12⟩
      · go_wp2_with fail
        go_ret
        exact ⟨rfl, hb12⟩
    · have hgI : decide ((len1 : Int) < (len : Int) + 1) = false := by simp; omega
      have hgI' : ¬ ((len1 : Int) < (len : Int) + 1) := by omega
      obtain rfl := ha1 (by omega)
      obtain ⟨u0, hu0⟩ : ∃ u, us[0]? = some u := ⟨_, List.getElem?_eq_getElem (by rw [hul]; omega)⟩
      have cu0 := hc1 0 u0 hu0
      have hu255 := hu u0 (List.mem_of_getElem? hu0)
      clear hq hc hs hl hzl hc1 hul hu hl1 hu0
      go_enter Tryd.func8, Tryd.ntmps8
      go_wp2_with fail
      refine hkn.mono ?_
      rintro e w1 ⟨rfl, hb1⟩
      go_wp2_with fail
      refine (hsh w1 hb1).mono ?_
      rintro e w2 ⟨q, rfl, _, hb2⟩
      have hb12 := hb1.trans (hb2.mono hb1.size)
      clear hsh hkn
      cases q
      · go_wp2_with fail
        go_ret
        exact ⟨rfl, hb12⟩
      · obtain ⟨w3, hw3⟩ : ∃ w3, w2.alloc (.cells #[.string ⟨#[32]⟩, .string ⟨#[9]⟩, .string ⟨#[32, 32, 9, 32]⟩, .string ⟨#[9, 9]⟩] 53) = w3 := ⟨_, rfl⟩
        have hb3 : Below w.heap.size w w3 := by rw [← hw3]; exact hb12.alloc hb12.size _
        have hs3 : w2.heap.size < w3.heap.size := by rw [← hw3]; simp
        have hcb : Hid (∀ r, r < 4 → w3.cell? ⟨w2.heap.size, r, none⟩ = some (.string ⟨(gb r).toArray⟩)) := by
          intro r hr
          rw [← hw3]
          match r, hr with
          | 0, _ => exact cell_at rfl rfl
          | 1, _ => exact cell_at rfl rfl
          | 2, _ => exact cell_at rfl rfl
          | 3, _ => exact cell_at rfl rfl
        have cu : w3.cell? ⟨b1, o1, none⟩ = some (.int .u8 u0) := (hb3.cell (p := ⟨b1, o1 + 0, none⟩) (cell_lt cu0)).trans cu0
        obtain ⟨r0, hr0⟩ : ∃ r, u0 % 4 = r := ⟨_, rfl⟩
        have hr4 : r0 < 4 := by omega
        have hrI : (u0 : Int) % 4 = (r0 : Int) := by omega
        have hrI4 : (r0 : Int) < 4 := by omega
        obtain ⟨hg1, hg2, hg3⟩ := gb_bl r0
        obtain ⟨G0, hG0, hG0z, hG0e⟩ := letters (gb r0)
        have cg := hcb.out r0 hr4
        rw [hG0e] at cg
        have hG0s : G0.size ≤ 4 := by rw [hG0z]; exact hg3
        have hgbl : Hid (∀ c ∈ G0.data.toList, bl c = true) := by show ∀ c ∈ _, _; rw [hG0]; exact hg2
        clear hr0 hG0 hG0z hG0e hg1 hg2 hg3 cu0
        go_wp2_with (rw [hw3])
        rw [hrI]
        clear hw3 cu cg hrI
        go_loopw [6, 7] (fun v i wr => ∃ (k : Nat) (S : ByteArray), k ≤ len ∧ i = .int .i64 k ∧ v = .string S ∧ Hid (S.data.toList = G0.data.toList ++ ws (prs' zs us k)) ∧ Hid (∀ p ∈ prs' zs us k, plain p.1 = true) ∧ Below w3.heap.size w3 wr) (fun _ i _ => len - (intOf i).toNat)
        case atStart => exact ⟨0, G0, by omega, rfl, rfl, by show _ = _; simp [prs', ws], by show ∀ p ∈ _, _; simp [prs'], Below.refl _ _⟩
        case round =>
          obtain ⟨k, S, hk, rfl, rfl, hS, hpl, hb⟩ := hrel
          have hbw : Below w.heap.size w wr := hb3.trans (hb.mono hb3.size)
          have hSz : S.size ≤ 2000 := by
            have h1 := ws_le (prs' zs us k) (fun p hp => by
              obtain ⟨j, hj, rfl⟩ := List.mem_map.1 hp
              have hj' : j < zs.length := by have := List.mem_range.1 hj; rw [hzlH.out]; omega
              refine ⟨?_, (gb_bl _).2.2⟩
              simp only [pr]
              rw [size_list, List.getD_eq_getElem?_getD, List.getElem?_eq_getElem hj', Option.getD_some]
              exact hqH.out _ (List.getElem_mem _))
            have h2 : (prs' zs us k).length = k := by simp [prs']
            rw [h2] at h1
            have := congrArg List.length hS.out
            rw [List.length_append, size_list, size_list] at this
            have : k * 44 ≤ 20 * 44 := Nat.mul_le_mul_right _ (by omega)
            omega
          by_cases hkl : k < len
          · obtain ⟨x, hx⟩ : ∃ x, zs[k]? = some x := ⟨_, List.getElem?_eq_getElem (by rw [hzlH.out]; exact hkl)⟩
            obtain ⟨u, hu1⟩ : ∃ u, us[k + 1]? = some u := ⟨_, List.getElem?_eq_getElem (by rw [hulH.out]; omega)⟩
            have c0 := (hbw.cell (p := ⟨b, o + k, none⟩) (cell_lt (hcH.out k x hx))).trans (hcH.out k x hx)
            have c1 := (hbw.cell (p := ⟨b1, o1 + (k + 1), none⟩) (cell_lt (hc1H.out (k + 1) u hu1))).trans (hc1H.out (k + 1) u hu1)
            have hxs := hqH.out x (List.mem_of_getElem? hx)
            have hu25 := huH.out u (List.mem_of_getElem? hu1)
            obtain ⟨r, hr⟩ : ∃ r, u % 4 = r := ⟨_, rfl⟩
            have hr4 : r < 4 := by omega
            have hrI : (u : Int) % 4 = (r : Int) := by omega
            have hrI4 : (r : Int) < 4 := by omega
            obtain ⟨G, hG, hGz, hGe⟩ := letters (gb r)
            have cg := hcb.out r hr4
            rw [hGe] at cg
            replace cg := (hb.cell (p := ⟨w2.heap.size, r, none⟩) hs3).trans cg
            have hGs : G.size ≤ 4 := by rw [hGz]; exact (gb_bl r).2.2
            have hpk : Hid (prs' zs us (k + 1) = prs' zs us k ++ [(x.data.toList, G.data.toList)]) := by
              show _ = _
              rw [prs_succ, hG, ← hr]
              unfold pr
              rw [List.getD_eq_getElem?_getD, hx, List.getD_eq_getElem?_getD, hu1]
              rfl
            obtain rfl := ha (by omega)
            have hkI : (k : Int) < (len : Int) := by omega
            clear hx hu1 hr hG hGz hGe
            go_wp2_with fail
            go_loopw [8] (fun i wr2 => ∃ m : Nat, m ≤ x.size ∧ i = .int .i64 m ∧ Hid (∀ c ∈ x.data.toList.take m, bl c = false) ∧ wr2 = wr) (fun i _ => x.size - (intOf i).toNat)
            case atStart => exact ⟨0, by omega, rfl, by show ∀ c ∈ _, _; simp, rfl⟩
            case round =>
              obtain ⟨m, hm, rfl, hno, hwr⟩ := hrel
              subst hwr
              by_cases hmx : m < x.size
              · have htk : Hid (x.data.toList.take (m + 1) = x.data.toList.take m ++ [x[m]]) := by
                  show _ = _
                  rw [List.take_add_one, get_list x m hmx]; rfl
                obtain ⟨c, hc⟩ : ∃ c, x[m] = c := ⟨_, rfl⟩
                rw [hc] at htk
                have hmI : (m : Int) < (x.size : Int) := by omega
                cases hbl : bl c
                · obtain ⟨n1, n2⟩ := bl_int hbl
                  have hno2 : Hid (∀ c ∈ x.data.toList.take (m + 1), bl c = false) := by
                    show ∀ c ∈ _, _
                    rw [htk.out]
                    intro d hd
                    rcases List.mem_append.1 hd with h | h
                    · exact hno.out d h
                    · have : d = c := by simpa using h
                      rw [this]; exact hbl
                  clear hbl
                  go_wp2_with fail
                  exact ⟨⟨m + 1, by omega, by go_num, hno2, trivial⟩, by simp [intOf]; omega⟩
                · rcases bl_yes hbl with n1 | ⟨n1, n2⟩
                  · clear hbl
                    go_wp2_with fail
                    go_ret
                    exact ⟨rfl, hbw⟩
                  · clear hbl
                    go_wp2_with fail
                    go_ret
                    exact ⟨rfl, hbw⟩
              · obtain rfl : m = x.size := by omega
                have hmI : ¬ ((x.size : Int) < (x.size : Int)) := by omega
                have hall : Hid (∀ c ∈ x.data.toList, bl c = false) := by
                  have := hno.out
                  rwa [List.take_of_length_le (by rw [size_list]; exact Nat.le_refl _)] at this
                cases h0 : (x.toList == [])
                · have hxp := size_pos h0
                  obtain ⟨R, _, _, hcons⟩ := uncons x hxp
                  obtain ⟨c, hc⟩ : ∃ c, x[0] = c := ⟨_, rfl⟩
                  rw [hc] at hcons
                  have hxI : (0 : Int) < (x.size : Int) := by omega
                  by_cases hq1 : c = 34
                  · have n1 : (c.toNat : Int) = 34 := by rw [hq1]; rfl
                    clear hcons hq1
                    go_wp2_with fail
                    go_ret
                    exact ⟨rfl, hbw⟩
                  have n1 : ((c.toNat : Int) == 34) = false := beq8 c 34 hq1
                  by_cases hq2 : c = 39
                  · have n2 : (c.toNat : Int) = 39 := by rw [hq2]; rfl
                    clear hcons hq1 hq2
                    go_wp2_with fail
                    go_ret
                    exact ⟨rfl, hbw⟩
                  have n2 : ((c.toNat : Int) == 39) = false := beq8 c 39 hq2
                  have hpx : plain x.data.toList = true := by
                    have h1 := hall.out
                    rw [hcons] at h1 ⊢
                    simp only [plain, Bool.and_eq_true, Bool.not_eq_true', beq_eq_false_iff_ne, ne_eq, List.all_eq_true]
                    exact ⟨⟨hq1, hq2⟩, h1⟩
                  have hpl2 : Hid (∀ p ∈ prs' zs us (k + 1), plain p.1 = true) := by
                    show ∀ p ∈ _, _
                    rw [hpk.out]
                    intro p hp
                    rcases List.mem_append.1 hp with h | h
                    · exact hpl.out p h
                    · have : p = (x.data.toList, G.data.toList) := by simpa using h
                      rw [this]; exact hpx
                  have hnx : Hid (((S ++ x) ++ G).data.toList = G0.data.toList ++ ws (prs' zs us (k + 1))) := by
                    show _ = _
                    rw [hpk.out, ws_snoc, ← List.append_assoc, ← hS.out]
                    simp
                  have hk1I : (k : Int) + 1 < (len1 : Int) := by omega
                  have hkw : IntKind.i64.wrap ((k : Int) + 1) = ((k + 1 : Nat) : Int) := wrap_small _ (by omega) (by omega)
                  clear hcons hq1 hq2 hpx
                  go_wp2_with fail
                  go_quiet (fail)
                  go_wp2_with fail
                  exact ⟨⟨k + 1, _, by omega, by go_num, rfl, hnx, hpl2, below_drewN hb _⟩, by simp [intOf]; omega⟩
                · go_wp2_with fail
                  go_ret
                  exact ⟨rfl, hbw⟩
          · obtain rfl : k = len := by omega
            have hkI : ¬ ((k : Int) < (k : Int)) := by omega
            have hsp := split_any S wr (by omega)
            have e2 : prs' zs us k = prs' zs us zs.length := by rw [hzlH.out]
            rw [hS.out, spl_ws _ _ hgbl.out (fun p hp => ⟨hpl.out p hp, by
              obtain ⟨j, _, rfl⟩ := List.mem_map.1 hp
              exact ⟨(gb_bl _).1, (gb_bl _).2.1⟩⟩), e2, prs_all] at hsp
            have hsp' : Hid (Calls Tryd.prog 15 #[.string S] wr (SplitP (some (lists zs)) wr)) := hsp
            clear hsp e2
            go_wp2_with fail
            refine hsp'.out.mono ?_
            rintro e w4 ⟨v, rfl, hown, hb4⟩
            have hb14 := hbw.trans (hb4.mono hbw.size)
            obtain ⟨a', g', cap', rfl, ha', hc'⟩ := own_cells hown
            rw [back_list] at hc'
            rw [List.length_map, hzlH.out] at ha' ⊢
            have htx := texts_same a' a g' 0 cap' b o cap zs w4 (by rw [hzlH.out]; exact ha') (by rw [hzlH.out]; exact ha) hc' (fun j x hj => (hb14.cell (p := ⟨b, o + j, none⟩) (cell_lt (hcH.out j x hj))).trans (hcH.out j x hj)) (by rw [hzlH.out]; omega)
            rw [hzlH.out] at htx
            have htx' : Hid (Calls Tryd.prog 17 #[.slice a' k cap', .slice a k cap] w4 fun e w' => e = .returned (.bool true) ∧ Below w4.heap.size w4 w') := htx
            clear htx
            go_wp2_with (go_at_call 17; refine htx'.out.mono ?_)
            rintro e w5 ⟨rfl, hb5⟩
            go_wp2_with fail
            go_ret
            exact ⟨rfl, hb14.trans (hb5.mono hb14.size)⟩
  · have hqH : Hid (¬ (zs.length ≤ 20 ∧ ∀ x ∈ zs, x.size ≤ 40)) := hq
    clear hq hc hs hl hzl hc1 hul hu hl1
    go_enter Tryd.func8, Tryd.ntmps8
    go_wp2_with fail
    refine hkn.mono ?_
    rintro e w1 ⟨rfl, hb1⟩
    go_wp2_with fail
    refine (hsh w1 hb1).mono ?_
    rintro e w2 ⟨q, rfl, hqq, hb2⟩
    have hb12 := hb1.trans (hb2.mono hb1.size)
    clear hsh hkn
    cases q
    · go_wp2_with fail
      go_ret
      exact ⟨rfl, hb12⟩
    · exact absurd (hqq rfl) hqH.out
end Go.Proofs.YtcihilaofehomaaDoor
