/- The walk of the law LineQuotes. -/
import Derived.Test.YtcihilaofehomaaDoorK1
import Derived.Test.YtcihilaofehomaaDoorLN4
namespace Go.Proofs.YtcihilaofehomaaDoor
open Go.RowKit Lin
theorem quo_le (x : L) : (quo x).length ≤ 2 * x.length + 2 := by
  have := quo_len x
  unfold quo
  simp only [List.length_cons, List.length_append, List.length_nil]
  omega
theorem qs_le : ∀ (l : List L) (m : Nat), (∀ x ∈ l, x.length ≤ m) → (qs l).length ≤ l.length * (2 * m + 3)
  | [], m, _ => by simp [qs]
  | x :: t, m, h => by
    have h1 := qs_le t m (fun y hy => h y (by simp [hy]))
    have h2 := quo_le x
    have h3 := h x (by simp)
    have e : qs (x :: t) = 32 :: (quo x ++ qs t) := by simp [qs]
    rw [e, List.length_cons, List.length_append, List.length_cons, Nat.add_mul]
    omega
abbrev lists (zs : List ByteArray) : List L := zs.map fun z => z.data.toList
theorem lists_take (zs : List ByteArray) (k : Nat) (x : ByteArray) (h : zs[k]? = some x) : lists (zs.take (k + 1)) = lists (zs.take k) ++ [x.data.toList] := by
  unfold lists
  rw [List.take_add_one, h]; simp
theorem back_list (zs : List ByteArray) : (lists zs).map (fun y => (⟨y.toArray⟩ : ByteArray)) = zs := by
  unfold lists
  rw [List.map_map]
  conv => rhs; rw [← List.map_id zs]
  exact List.map_congr_left fun x _ => Lib.mk_data x
set_option maxRecDepth 100000 in
set_option maxHeartbeats 4000000 in
theorem quotes_walk (a : Option Addr) (b o len cap : Nat) (zs : List ByteArray) (w : World) (hg : Mx w) (ha : 0 < len → a = some ⟨b, o, none⟩) (hzl : zs.length = len) (hc : ∀ j x, zs[j]? = some x → w.cell? ⟨b, o + j, none⟩ = some (.string x)) (hs : ∀ x ∈ zs, x.size ≤ maxLen) (hl : len ≤ maxLen) :
    Calls Tryd.prog 5 #[.slice a len cap] w fun e w' => e = .returned (.bool true) ∧ Below w.heap.size w w' := by
  have hkn := known_any w hg
  have hsh := fun (w1 : World) (hb : Below w.heap.size w w1) => short_any 20 60 a b o cap zs w1 (by rw [hzl]; exact ha) (fun j x hj => (hb.cell (p := ⟨b, o + j, none⟩) (cell_lt (hc j x hj))).trans (hc j x hj)) hs (by rw [hzl]; exact hl)
  rw [hzl] at hsh
  by_cases hq : zs.length ≤ 20 ∧ ∀ x ∈ zs, x.size ≤ 60
  · obtain ⟨hq1, hq2⟩ := hq
    have hlen : len ≤ 20 := by omega
    have hqH : Hid (∀ x ∈ zs, x.size ≤ 60) := hq2
    have hcH : Hid (∀ j x, zs[j]? = some x → w.cell? ⟨b, o + j, none⟩ = some (.string x)) := hc
    have hzlH : Hid (zs.length = len) := hzl
    clear hq1 hq2 hc hs hl hzl
    go_enter Tryd.func5, Tryd.ntmps5
    go_wp2_with fail
    refine hkn.mono ?_
    rintro e w1 ⟨rfl, hb1⟩
    go_wp2_with fail
    refine (hsh w1 hb1).mono ?_
    rintro e w2 ⟨q, rfl, _, hb2⟩
    have hb12 := hb1.trans (hb2.mono hb1.size)
    clear hsh hkn
    cases q
    · go_wp2_with fail
      go_ret
      exact ⟨rfl, hb12⟩
    · go_wp2_with fail
      go_loopw [3, 4] (fun v i wr => ∃ (k : Nat) (S : ByteArray), k ≤ len ∧ i = .int .i64 k ∧ v = .string S ∧ Hid (S.data.toList = qs (lists (zs.take k))) ∧ Below w.heap.size w wr) (fun _ i _ => len - (intOf i).toNat)
      case atStart => exact ⟨0, ⟨#[]⟩, by omega, rfl, rfl, rfl, hb12⟩
      case round =>
        obtain ⟨k, S, hk, rfl, rfl, hS, hb⟩ := hrel
        have hSz : S.size ≤ 3000 := by
          have h1 := qs_le (lists (zs.take k)) 60 (fun x hx => by
            obtain ⟨y, hy, rfl⟩ := List.mem_map.1 hx
            rw [size_list]; exact hqH.out y (List.mem_of_mem_take hy))
          rw [← hS.out, size_list, List.length_map, List.length_take] at h1
          have : min k zs.length ≤ 20 := by omega
          have := Nat.mul_le_mul_right (2 * 60 + 3) this
          omega
        by_cases hkl : k < len
        · obtain ⟨x, hx⟩ : ∃ x, zs[k]? = some x := ⟨_, List.getElem?_eq_getElem (by rw [hzlH.out]; exact hkl)⟩
          have c0 := hcH.out k x hx
          replace c0 := (hb.cell (p := ⟨b, o + k, none⟩) (cell_lt c0)).trans c0
          have hxs := hqH.out x (List.mem_of_getElem? hx)
          obtain ⟨Q, hQl, hQz, hQe⟩ := letters (quo x.data.toList)
          have hQs : Q.size ≤ 200 := by
            have := quo_le x.data.toList
            rw [size_list] at this
            rw [hQz]; omega
          have hquo : Hid (∀ w, Calls Tryd.prog 18 #[.string x] w fun e w' => e = .returned (.string Q) ∧ Below w.heap.size w w') := by
            intro w
            have := quote_any x w (by omega)
            rw [hQe] at this
            exact this
          have hnx : Hid (((S ++ (⟨#[32]⟩ : ByteArray)) ++ Q).data.toList = qs (lists (zs.take (k + 1)))) := by
            show _ = _
            rw [lists_take zs k x hx, qs_snoc, ← hS.out, ← hQl]
            simp
          obtain rfl := ha (by omega)
          clear hx hQl hQz hQe
          go_wp2_with fail
          refine (hquo.out _).mono ?_
          rintro e w3 ⟨rfl, hb3⟩
          go_wp2_with fail
          exact ⟨⟨k + 1, _, by omega, by go_num, rfl, hnx, hb.trans (hb3.mono hb.size)⟩, by simp [intOf]; omega⟩
        · obtain rfl : k = len := by omega
          have hSl : S.data.toList = qs (lists zs) := by rw [hS.out, List.take_of_length_le (by rw [hzlH.out]; exact Nat.le_refl _)]
          have hsp := fun w => split_any (S ++ ⟨#[32]⟩) w (by rw [app_list]; show (_ : List UInt8).length ≤ _; rw [List.length_append, size_list]; show _ + 1 ≤ _; omega)
          rw [show (S ++ (⟨#[32]⟩ : ByteArray)).data.toList = qs (lists zs) ++ [32] by rw [app_list, ← hSl], spl_qs] at hsp
          have hsp' : Hid (∀ w, Calls Tryd.prog 15 #[.string (S ++ ⟨#[32]⟩)] w (SplitP (some (lists zs)) w)) := hsp
          clear hsp hSl
          go_wp2_with fail
          refine (hsp'.out _).mono ?_
          rintro e w3 ⟨v, rfl, hown, hb3⟩
          have hb13 := hb.trans (hb3.mono hb.size)
          obtain ⟨a', g', cap', rfl, ha', hc'⟩ := own_cells hown
          rw [back_list] at hc'
          rw [List.length_map, hzlH.out] at ha' ⊢
          have htx := texts_same a a' b o cap g' 0 cap' zs w3 (by rw [hzlH.out]; exact ha) (by rw [hzlH.out]; exact ha') (fun j x hj => (hb13.cell (p := ⟨b, o + j, none⟩) (cell_lt (hcH.out j x hj))).trans (hcH.out j x hj)) hc' (by rw [hzlH.out]; omega)
          rw [hzlH.out] at htx
          have htx' : Hid (Calls Tryd.prog 17 #[.slice a k cap, .slice a' k cap'] w3 fun e w' => e = .returned (.bool true) ∧ Below w3.heap.size w3 w') := htx
          clear htx
          go_wp2_with (go_at_call 17; refine htx'.out.mono ?_)
          rintro e w4 ⟨rfl, hb4⟩
          go_wp2_with fail
          go_ret
          exact ⟨rfl, hb13.trans (hb4.mono hb13.size)⟩
  · have hqH : Hid (¬ (zs.length ≤ 20 ∧ ∀ x ∈ zs, x.size ≤ 60)) := hq
    clear hq hc hs hl hzl
    go_enter Tryd.func5, Tryd.ntmps5
    go_wp2_with fail
    refine hkn.mono ?_
    rintro e w1 ⟨rfl, hb1⟩
    go_wp2_with fail
    refine (hsh w1 hb1).mono ?_
    rintro e w2 ⟨q, rfl, hqq, hb2⟩
    have hb12 := hb1.trans (hb2.mono hb1.size)
    clear hsh hkn
    cases q
    · go_wp2_with fail
      go_ret
      exact ⟨rfl, hb12⟩
    · exact absurd (hqq rfl) hqH.out
end Go.Proofs.YtcihilaofehomaaDoor
