/- A row of bytes that a function owns: as a string; the contract of the reference's Escape. -/
import Derived.Test.YtimmieelpaoncaaDoorR5
import Derived.Maps.AppendAt
import Derived.Laws.BytesString
import Derived.Lib.BufferRead
namespace Go.Proofs.YtimmieelpaoncaaDoor
open Go.RowKit Nam
theorem info8 : (Tryd.prog.info? 5).map (fun i => (i.zero, i.size, i.bytes)) = some (some (.int .u8 0), 1, 1) := by kernel_rfl
theorem foldl_push : ∀ (X : L) (s : ByteArray), ((X.map fun b => (b.toNat : Int)).foldl (fun r n => r.push (UInt8.ofNat n.toNat)) s).data.toList = s.data.toList ++ X
  | [], s => by simp
  | b :: X, s => by
    rw [List.map_cons, List.foldl_cons, foldl_push X]
    have : UInt8.ofNat ((b.toNat : Int).toNat) = b := by simp
    rw [this]
    simp [ByteArray.push]
theorem conv_row {w : World} {base : Nat} {v : Value} {X : L} (h : w.ownsRow base 5 1 v X.length (Lib.byteCells X)) : (convert 51 9 v).run Tryd.prog w = .ok (.string ⟨X.toArray⟩) w := by
  have hx := h
  rcases h.2 with ⟨rfl, h0⟩ | ⟨g, cap, cur, rfl, _, hb, hle, _, hsz, htk⟩
  · have : X = [] := List.length_eq_zero_iff.1 h0
    subst this
    exact Lib.run_convert_nil_bytes w _ _ _ 0 Tryd.underlying51 Tryd.underlying5 Tryd.underlying9
  · rw [run_convert_bytes_string w _ _ _ _ _ _ Tryd.underlying51 Tryd.underlying5 Tryd.underlying9]
    have hl : (loadCells ⟨g, 0, none⟩ X.length).run Tryd.prog w = .ok ((X.map fun b => (b.toNat : Int)).map (Value.int .u8)).toArray w := by
      have hbc : ((X.map fun b => (b.toNat : Int)).map (Value.int .u8)) = Lib.byteCells X := by simp [Lib.byteCells]
      rw [hbc]
      have := run_loadCells_list (P := Tryd.prog) (w := w) ⟨g, 0, none⟩ (Lib.byteCells X) (fun j u hj => by
        have hjl : j < X.length := by have := (List.getElem?_eq_some_iff.1 hj).1; rwa [Lib.byteCells_length] at this
        have hc := hx.cellAt j (by omega)
        rw [Go.WideShapes.add_plain, Nat.zero_add]
        exact hc.trans hj)
      rw [Lib.byteCells_length] at this
      exact this
    rw [run_bytesToString w _ _ _ _ hl]
    congr 2
    rw [← Lib.mk_data (List.foldl _ _ _), foldl_push]
    rfl
theorem row_news1 (w : World) (c : Value) (t : TypeId) : ∀ j u, [c][j]? = some u → (w.alloc (.cells #[c] t)).cell? ((⟨w.heap.size, 0, none⟩ : Addr).add j) = some u := by
  intro j u hj
  match j, hj with
  | 0, hj => simp at hj; subst hj; simp [Addr.add]
theorem row_news4 (w : World) (a b c d : Value) (t : TypeId) : ∀ j u, [a, b, c, d][j]? = some u → (w.alloc (.cells #[a, b, c, d] t)).cell? ((⟨w.heap.size, 0, none⟩ : Addr).add j) = some u := by
  intro j u hj
  match j, hj with
  | 0, hj => simp at hj; subst hj; simp [Addr.add]
  | 1, hj => simp at hj; subst hj; simp [Addr.add]
  | 2, hj => simp at hj; subst hj; simp [Addr.add]
  | 3, hj => simp at hj; subst hj; simp [Addr.add]
theorem grow_below {w W W' : World} {B : Nat} {r : Option Nat} (h : Below B w W) (hg : W.grownBy W' r) (hB : B ≤ W.heap.size) (hr : ∀ k, r = some k → B ≤ k) : Below B w W' := h.grown hg hB hr
set_option maxRecDepth 100000 in
set_option maxHeartbeats 1000000 in
theorem rescape_any (s : ByteArray) (w : World) (hs : s.size ≤ 1000000) :
    Calls Tryd.prog 21 #[.string s] w fun e w' => e = .returned (.string ⟨(esc s.data.toList).toArray⟩) ∧ Below w.heap.size w w' := by
  obtain ⟨i0, hinf, hz0, hz1, hz2⟩ := info_parts info8
  go_enter Tryd.func21, Tryd.ntmps21
  go_wp2_with fail
  go_loopw [3, 4] (fun v i wr => ∃ (k : Nat) (X : L), k ≤ s.size ∧ i = .int .i64 k ∧ Hid (X = esc (s.data.toList.take k)) ∧ X.length ≤ 4 * k ∧ Hid (wr.ownsRow w.heap.size 5 1 v X.length (Lib.byteCells X)) ∧ Below w.heap.size w wr) (fun _ i _ => s.size - (intOf i).toNat)
  case atStart => exact ⟨0, [], by omega, rfl, rfl, by simp, World.ownsRow_nil _ _ _ _, Below.refl _ _⟩
  case round =>
    obtain ⟨k, X, hk, rfl, hX, hXl, hown, hb⟩ := hrel
    have hwz := hb.size
    by_cases hlt : k < s.size
    · have htk : Hid (s.data.toList.take (k + 1) = s.data.toList.take k ++ [s[k]]) := by
        show _ = _
        rw [List.take_add_one, get_list s k hlt]; rfl
      have htl : Hid ((s.data.toList.take k).length = k) := by show _ = _; rw [List.length_take, size_list]; omega
      obtain ⟨c, hc⟩ : ∃ c, s[k] = c := ⟨_, rfl⟩
      rw [hc] at htk
      have hcl := c.toNat_lt
      have hE : Hid (esc (s.data.toList.take (k + 1)) = X ++ e1 (k == 0) c) := by
        show _ = _
        rw [htk.out, esc_snoc, ← hX.out, htl.out]
      cases hkp : kp (k == 0) c
      · by_cases h47 : c = 47
        · have hE' : Hid (X ++ [45] = esc (s.data.toList.take (k + 1))) := by
            show _ = _
            rw [hE.out, h47]; rfl
          have h47' : (c.toNat : Int) = 47 := by rw [h47]; rfl
          have ha : al c = false := by rw [h47]; rfl
          clear h47 hkp
          have hr1 := hown.out.alloc (.cells #[.int .u8 45] 5)
          have hlod := fun w => alnum_any c w
          simp only [h47', ha] at hlod
          have hlod' : Hid _ := hlod
          clear hlod
          go_wp2_with (first | (go_at_call 38; refine (hlod'.out _).mono ?_; rintro e w' ⟨rfl, rfl⟩) | (at_builtin; refine wpList_append_own_at _ rfl _ _ 51 rfl w.heap.size 5 i0 (.int .u8 0) 1 1 Tryd.underlying51 hinf hz0 hz1 hz2 rfl (by decide) _ _ _ rfl hr1 ⟨_, 0, none⟩ 1 1 [.int .u8 45] rfl rfl (row_news1 _ _ _) (fun x hx => by simp at hx; rcases hx with rfl <;> rfl) (by unfold maxLen; omega) (by omega) (by simp; omega) ?_; intro v' w3 hown' hgrow _ _))
          have hb4 : Below w.heap.size w w3 := (hb.alloc hwz _).grown hgrow (by simp; omega) (fun k e => (hr1.lt k e).1)
          exact ⟨⟨k + 1, X ++ [45], by omega, by go_num, hE'.out, by simp; omega, by rw [byteCells_snoc, List.length_append]; exact hown', hb4⟩, by simp [intOf]; omega⟩
        · have h47b : (c == 47) = false := by simpa using h47
          have h47' : ((c.toNat : Int) == 47) = false := by
            have : ¬ (c.toNat : Int) = 47 := fun e => h47 (UInt8.toNat_inj.1 (by simp; omega))
            simpa using this
          have ha : al c = false := by unfold kp at hkp; simp at hkp; exact hkp.1.1.1
          have b58 : ((c.toNat : Int) == 58) = false := by
            rw [Bool.eq_false_iff]; intro e
            have : c = 58 := UInt8.toNat_inj.1 (by simp at e; simp; omega)
            rw [this] at hkp; simp [kp] at hkp
          have b95 : ((c.toNat : Int) == 95) = false := by
            rw [Bool.eq_false_iff]; intro e
            have : c = 95 := UInt8.toNat_inj.1 (by simp at e; simp; omega)
            rw [this] at hkp; simp [kp] at hkp
          obtain ⟨n, hn⟩ : ∃ n, c.toNat / 16 = n := ⟨_, rfl⟩
          obtain ⟨m, hm⟩ : ∃ m, c.toNat % 16 = m := ⟨_, rfl⟩
          have hE' : Hid (X ++ [92, 120, hx n, hx m] = esc (s.data.toList.take (k + 1))) := by
            show _ = _
            rw [hE.out, e1, h47b, hkp, ← hn, ← hm]; rfl
          have hnI : (c.toNat : Int) / 16 = (n : Int) := by omega
          have hmI : (c.toNat : Int) % 16 = (m : Int) := by omega
          have hn16 : n < 16 := by omega
          have hm16 : m < 16 := by omega
          have n46 : ((c.toNat : Int) == 46) = false ∨ ((c.toNat : Int) == 46) = true ∧ k = 0 := by
            by_cases e : (c.toNat : Int) = 46
            · have : c = 46 := UInt8.toNat_inj.1 (by simp; omega)
              rw [this] at hkp; simp [kp] at hkp; exact .inr ⟨by simpa using e, hkp.2⟩
            · exact .inl (by simpa using e)
          have hr1 := hown.out.alloc (.cells #[.int .u8 92, .int .u8 120, .int .u8 (hx n).toNat, .int .u8 (hx m).toNat] 5)
          have bc4 : Lib.byteCells (X ++ [92, 120, hx n, hx m]) = Lib.byteCells X ++ [.int .u8 92, .int .u8 120, .int .u8 (hx n).toNat, .int .u8 (hx m).toNat] := by simp [Lib.byteCells]
          have bc4' : Hid _ := bc4
          clear hkp h47 h47b hn hm bc4
          rcases n46 with n46 | ⟨n46, rfl⟩
          all_goals
            go_wp2_with (first | (go_at_call 38; refine (alnum_any c _).mono ?_; rintro e w' ⟨rfl, rfl⟩) | (go_at_call_of 45 (Value.int .u8 n); refine (hex_any n _ hn16).mono ?_; rintro e w' ⟨rfl, rfl⟩) | (go_at_call_of 45 (Value.int .u8 m); refine (hex_any m _ hm16).mono ?_; rintro e w' ⟨rfl, rfl⟩) | (at_builtin; refine wpList_append_own_at _ rfl _ _ 51 rfl w.heap.size 5 i0 (.int .u8 0) 1 1 Tryd.underlying51 hinf hz0 hz1 hz2 rfl (by decide) _ _ _ rfl hr1 ⟨_, 0, none⟩ 4 4 [.int .u8 92, .int .u8 120, .int .u8 (hx n).toNat, .int .u8 (hx m).toNat] rfl rfl (row_news4 _ _ _ _ _ _) (fun x hx => by simp at hx; rcases hx with rfl | rfl | rfl | rfl <;> rfl) (by unfold maxLen; omega) (by omega) (by simp; omega) ?_; intro v' w3 hown' hgrow _ _))
            have hb4 : Below w.heap.size w w3 := (hb.alloc hwz _).grown hgrow (by simp; omega) (fun k e => (hr1.lt k e).1)
            exact ⟨⟨_ + 1, X ++ [92, 120, hx n, hx m], by omega, by go_num, hE'.out, by rw [List.length_append]; show _ + 4 ≤ _; omega, by rw [bc4'.out, List.length_append]; exact hown', hb4⟩, by simp [intOf]; omega⟩
      · have h47b : (c == 47) = false := by
          cases h : (c == 47) with
          | false => rfl
          | true => have : c = 47 := by simpa using h
                    rw [this] at hkp; simp [kp, al] at hkp
        have hE' : Hid (X ++ [c] = esc (s.data.toList.take (k + 1))) := by
          show _ = _
          rw [hE.out, e1, h47b, hkp]; rfl
        have hkp' : Hid (kp (k == 0) c = true) := hkp
        clear hkp h47b
        have hr1 := hown.out.alloc (.cells #[.int .u8 c.toNat] 5)
        cases ha : al c
        · have h3 : (c.toNat : Int) = 58 ∨ (c.toNat : Int) = 95 ∨ ((c.toNat : Int) = 46 ∧ (0 : Int) < (k : Int)) := by
            have := hkp'.out
            unfold kp at this
            rw [ha] at this
            simp at this
            rcases this with (h | h) | ⟨h, h'⟩
            · left; rw [h]; rfl
            · right; left; rw [h]; rfl
            · right; right; rw [h]; exact ⟨rfl, by omega⟩
          rcases h3 with h3 | h3 | ⟨h3, hk0⟩
          all_goals
            have hlod := fun w => alnum_any c w
            simp only [h3, ha] at hlod
            have hlod' : Hid _ := hlod
            clear hlod
            rw [h3] at hr1
            go_wp2_with (first | (go_at_call 38; refine (hlod'.out _).mono ?_; rintro e w' ⟨rfl, rfl⟩) | (at_builtin; refine wpList_append_own_at _ rfl _ _ 51 rfl w.heap.size 5 i0 (.int .u8 0) 1 1 Tryd.underlying51 hinf hz0 hz1 hz2 rfl (by decide) _ _ _ rfl hr1 ⟨_, 0, none⟩ 1 1 [.int .u8 _] rfl rfl (row_news1 _ _ _) (fun x hx => by simp at hx; rcases hx with rfl <;> rfl) (by unfold maxLen; omega) (by omega) (by simp; omega) ?_; intro v' w3 hown' hgrow _ _))
            rw [← h3] at hown'
            have hb4 : Below w.heap.size w w3 := (hb.alloc hwz _).grown hgrow (by simp; omega) (fun k e => (hr1.lt k e).1)
            exact ⟨⟨k + 1, X ++ [c], by omega, by go_num, hE'.out, by simp; omega, by rw [byteCells_snoc, List.length_append]; exact hown', hb4⟩, by simp [intOf]; omega⟩
        · go_wp2_with (first | (go_at_call 38; refine (alnum_any c _).mono ?_; rintro e w' ⟨rfl, rfl⟩) | (at_builtin; refine wpList_append_own_at _ rfl _ _ 51 rfl w.heap.size 5 i0 (.int .u8 0) 1 1 Tryd.underlying51 hinf hz0 hz1 hz2 rfl (by decide) _ _ _ rfl hr1 ⟨_, 0, none⟩ 1 1 [.int .u8 c.toNat] rfl rfl (row_news1 _ _ _) (fun x hx => by simp at hx; rcases hx with rfl <;> rfl) (by unfold maxLen; omega) (by omega) (by simp; omega) ?_; intro v' w3 hown' hgrow _ _))
          have hb4 : Below w.heap.size w w3 := (hb.alloc hwz _).grown hgrow (by simp; omega) (fun k e => (hr1.lt k e).1)
          exact ⟨⟨k + 1, X ++ [c], by omega, by go_num, hE'.out, by simp; omega, by rw [byteCells_snoc, List.length_append]; exact hown', hb4⟩, by simp [intOf]; omega⟩
    · obtain rfl : k = s.size := by omega
      have hXf : X = esc s.data.toList := by rw [hX.out, List.take_of_length_le (by rw [size_list]; omega)]
      have hcv := conv_row hown.out
      rw [hXf] at hcv
      have hcv' : Hid _ := hcv
      clear hXf
      go_wp2_with fail
      go_ret
      exact ⟨rfl, hb⟩
end Go.Proofs.YtimmieelpaoncaaDoor
