/- The contract of the reference's raw. -/
import Derived.Test.YtmoafagemdnifaaDoorR2
namespace Go.Proofs.YtmoafagemdnifaaDoor
open Go.RowKit Lin
theorem pieces_cut {l X : List UInt8} {Y : List L} {f i : Nat} (h : pieces l = Y ++ pieces (l.drop f)) (hX : X = (l.drop f).take (i - f)) (hfi : f ≤ i) (hno : ∀ (j : Nat) c, f ≤ j → j < i → l[j]? = some c → c ≠ 10) (hc : l[i]? = some 10) : pieces l = (Y ++ [X]) ++ pieces (l.drop (i + 1)) := by
  have hd : l.drop f = X ++ 10 :: l.drop (i + 1) := by
    obtain ⟨hl, hc'⟩ := List.getElem?_eq_some_iff.1 hc
    have h1 := List.drop_eq_getElem_cons hl
    rw [hc'] at h1
    rw [← h1, hX]
    have h2 : l.drop i = (l.drop f).drop (i - f) := by rw [List.drop_drop]; congr 1; omega
    rw [h2, List.take_append_drop]
  have hn : ∀ x ∈ X, x ≠ 10 := by
    intro x hx
    rw [hX] at hx
    obtain ⟨j, hj⟩ := List.mem_iff_getElem?.1 hx
    have hjl : j < i - f := by
      have := (List.getElem?_eq_some_iff.1 hj).1
      rw [List.length_take] at this; omega
    rw [List.getElem?_take_of_lt hjl, List.getElem?_drop] at hj
    exact hno (f + j) x (by omega) (by omega) hj
  rw [h, hd, pieces_split _ _ hn]
  simp
theorem pieces_last {l : List UInt8} {Y : List L} {f : Nat} (h : pieces l = Y ++ pieces (l.drop f)) (hno : ∀ (j : Nat) c, f ≤ j → j < l.length → l[j]? = some c → c ≠ 10) : pieces l = Y ++ [l.drop f] := by
  rw [h, pieces_none]
  intro x hx
  obtain ⟨j, hj⟩ := List.mem_iff_getElem?.1 hx
  rw [List.getElem?_drop] at hj
  exact hno (f + j) x (by omega) (List.getElem?_eq_some_iff.1 hj).1 hj
set_option maxRecDepth 100000 in
set_option maxHeartbeats 8000000 in
theorem raw_any (s : ByteArray) (w : World) (hs : s.size ≤ 1000000) :
    Calls Tryd.prog 37 #[.string s] w fun e w' => ∃ v, e = .returned v ∧ w'.ownsRow w.heap.size 9 1 v (pieces s.data.toList).length (strs (pieces s.data.toList)) ∧ Below w.heap.size w w' ∧ (pieces s.data.toList).length ≤ s.size + 1 := by
  obtain ⟨i0, hinf, hz0, hz1, hz2⟩ := info_parts infoS
  go_enter Tryd.func37, Tryd.ntmps37
  go_wp2_with fail
  go_loopw [3, 4, 5] (fun v fr i wr => ∃ (f k : Nat) (X : List L), f ≤ k ∧ k ≤ s.size ∧ fr = .int .i64 f ∧ i = .int .i64 k ∧ X.length ≤ k ∧ Hid (pieces s.data.toList = X ++ pieces (s.data.toList.drop f)) ∧ Hid (∀ (j : Nat) c, f ≤ j → j < k → s.data.toList[j]? = some c → c ≠ 10) ∧ Hid (wr.ownsRow w.heap.size 9 1 v X.length (strs X)) ∧ Below w.heap.size w wr) (fun _ _ i _ => s.size - (intOf i).toNat)
  case atStart => exact ⟨0, 0, [], by omega, by omega, rfl, rfl, by simp, rfl, fun j c h1 h2 => absurd h2 (Nat.not_lt_zero _), World.ownsRow_nil _ _ _ _, Below.refl _ _⟩
  case round =>
    obtain ⟨f, k, X, hfk, hk, rfl, rfl, hXl, hX, hno, hown, hb⟩ := hrel
    have hwz := hb.size
    by_cases hlt : k < s.size
    · have hg := get_list s k hlt
      obtain ⟨c, hc⟩ : ∃ c, s[k] = c := ⟨_, rfl⟩
      rw [hc] at hg
      have hkI : (k : Int) < (s.size : Int) := by omega
      by_cases h10 : c = 10
      · have hcI : (c.toNat : Int) = 10 := by rw [h10]; rfl
        rw [h10] at hg
        obtain ⟨A, hA⟩ : ∃ A, s.extract f k = A := ⟨_, rfl⟩
        have hAl : A.data.toList = (s.data.toList.drop f).take (k - f) := by rw [← hA, Lib.extract_data]
        have hN : Hid (pieces s.data.toList = (X ++ [A.data.toList]) ++ pieces (s.data.toList.drop (k + 1))) := pieces_cut hX.out hAl hfk hno.out hg
        have hr1 := hown.out.alloc (.cells #[.string A] 9)
        have hsn : Hid (strs (X ++ [A.data.toList]) = strs X ++ [.string A]) := strs_snoc X A
        have x1 : (f : Int) ≤ (k : Int) := by omega
        have x2 : (k : Int) ≤ (s.size : Int) := by omega
        clear hg h10 hAl hno
        go_wp2_with (at_builtin; refine wpList_append_own_at _ rfl _ _ 38 rfl w.heap.size 9 i0 (.string ⟨#[]⟩) 1 16 Tryd.underlying38 hinf hz0 hz1 hz2 rfl (by decide) _ _ _ rfl hr1 ⟨_, 0, none⟩ 1 1 [.string A] rfl rfl (row_news1 _ _ _) (fun x hx => by simp at hx; subst hx; rfl) (by unfold maxLen; omega) (by omega) (by simp; omega) ?_; intro v' w3 hown' hgrow _ _)
        have hb4 : Below w.heap.size w w3 := (hb.alloc hwz _).grown hgrow (by simp; omega) (fun k e => (hr1.lt k e).1)
        exact ⟨⟨k + 1, k + 1, X ++ [A.data.toList], by omega, by omega, by go_num, by go_num, by simp; omega, hN, fun j c h1 h2 => by omega, by rw [hsn.out, List.length_append]; exact hown', hb4⟩, by simp [intOf]; omega⟩
      · have hcI : ((c.toNat : Int) == 10) = false := beq8 c 10 h10
        have hno2 : Hid (∀ (j : Nat) c, f ≤ j → j < k + 1 → s.data.toList[j]? = some c → c ≠ 10) := fun j d h1 h2 hd => by
          rcases Nat.lt_or_ge j k with h | h
          · exact hno.out j d h1 h hd
          · obtain rfl : j = k := by omega
            rw [hg] at hd; cases hd; exact h10
        clear hg h10 hno
        go_wp2_with fail
        exact ⟨⟨f, k + 1, X, by omega, by omega, rfl, by go_num, by omega, hX, hno2, hown, hb⟩, by simp [intOf]; omega⟩
    · obtain rfl : k = s.size := by omega
      have hkI : ¬ ((s.size : Int) < (s.size : Int)) := by omega
      obtain ⟨A, hA⟩ : ∃ A, s.extract f s.size = A := ⟨_, rfl⟩
      have hAl : A.data.toList = s.data.toList.drop f := by rw [← hA, Lib.extract_data, List.take_of_length_le]; rw [List.length_drop, size_list]; omega
      have hN : Hid (pieces s.data.toList = X ++ [A.data.toList]) := by
        show _ = _
        rw [hAl]
        exact pieces_last hX.out (fun j c h1 h2 => hno.out j c h1 (by rwa [size_list] at h2))
      have hr1 := hown.out.alloc (.cells #[.string A] 9)
      have hsn : Hid (strs (X ++ [A.data.toList]) = strs X ++ [.string A]) := strs_snoc X A
      have x1 : (f : Int) ≤ (s.size : Int) := by omega
      clear hAl hno
      go_wp2_with (at_builtin; refine wpList_append_own_at _ rfl _ _ 38 rfl w.heap.size 9 i0 (.string ⟨#[]⟩) 1 16 Tryd.underlying38 hinf hz0 hz1 hz2 rfl (by decide) _ _ _ rfl hr1 ⟨_, 0, none⟩ 1 1 [.string A] rfl rfl (row_news1 _ _ _) (fun x hx => by simp at hx; subst hx; rfl) (by unfold maxLen; omega) (by omega) (by simp; omega) ?_; intro v' w3 hown' hgrow _ _)
      have hb4 : Below w.heap.size w w3 := (hb.alloc hwz _).grown hgrow (by simp; omega) (fun k e => (hr1.lt k e).1)
      go_ret
      refine ⟨_, rfl, ?_, hb4, ?_⟩
      · rw [hN.out, hsn.out, List.length_append]; exact hown'
      · rw [hN.out]; simp; omega
end Go.Proofs.YtmoafagemdnifaaDoor
