/- Contracts of the reference's Blank and Quote; rows that are owned, beside one another. -/
import Derived.Test.YtcihilaofehomaaDoorA4
import Derived.Test.YtcihilaofehomaaDoorB0
import Derived.Laws.BytesString
import Derived.Lib.BufferRead
namespace Go.Proofs.YtcihilaofehomaaDoor
open Go.RowKit Lin
set_option maxHeartbeats 1000000 in
theorem blank_any (c : UInt8) (w : World) :
    Calls Tryd.prog 30 #[.int .u8 c.toNat] w fun e w' => e = .returned (.bool (bl c)) ∧ w' = w := by
  have hA : Hid (bl c = (((c.toNat : Int) == 32) || ((c.toNat : Int) == 9))) := by
    show _ = _
    rw [Bool.eq_iff_iff, bl_iff]
    simp only [Bool.or_eq_true, beq_iff_eq]
    constructor
    · rintro (h | h) <;> rw [h] <;> simp
    · rintro (h | h)
      · exact .inl (UInt8.toNat_inj.1 (by simp; omega))
      · exact .inr (UInt8.toNat_inj.1 (by simp; omega))
  cases h1 : ((c.toNat : Int) == 32)
  all_goals
    go_enter Tryd.func30, Tryd.ntmps30
    go_wp2_with fail
    go_ret
    exact ⟨ret_bool (by rw [hA.out, h1]; rfl), rfl⟩
theorem own_ne {w : World} {B1 B2 : Nat} {e1 e2 : TypeId} {s1 s2 : Nat} {v1 v2 : Value} {n1 n2 : Nat} {xs1 xs2 : List Value} (h1 : w.ownsRow B1 e1 s1 v1 n1 xs1) (h2 : w.ownsRow B2 e2 s2 v2 n2 xs2) (he : e1 ≠ e2) : ∀ g, v1.ownBlock = some g → ¬ v2.ownBlock = some g := by
  intro g hg hg2
  rcases h1.2 with ⟨rfl, _⟩ | ⟨g1, c1, cu1, rfl, _, q1, _⟩
  · simp [Value.ownBlock] at hg
  · rcases h2.2 with ⟨rfl, _⟩ | ⟨g2, c2, cu2, rfl, _, q2, _⟩
    · simp [Value.ownBlock] at hg2
    · simp only [Value.ownBlock, Option.some.injEq] at hg hg2
      subst hg
      subst hg2
      rw [q1] at q2
      simp only [Option.some.injEq, Obj.cells.injEq] at q2
      exact he q2.2.1
theorem own_grown {w w' : World} {base : Nat} {e : TypeId} {size : Nat} {v : Value} {n : Nat} {xs : List Value} {r : Option Nat} (h : w.ownsRow base e size v n xs) (hg : w.grownBy w' r) (hr : ∀ g, v.ownBlock = some g → ¬ r = some g) : w'.ownsRow base e size v n xs := by
  refine ⟨h.1, ?_⟩
  rcases h.2 with h2 | ⟨g, cap, cur, h1, h2, h3, h4⟩
  · exact .inl h2
  · exact .inr ⟨g, cap, cur, h1, h2, (hg.block g (Array.getElem?_eq_some_iff.1 h3).1 (fun e => hr g (by rw [h1]; rfl) e.symm)).trans h3, h4⟩
theorem foldl_push : ∀ (X : L) (s : ByteArray), ((X.map fun b => (b.toNat : Int)).foldl (fun r n => r.push (UInt8.ofNat n.toNat)) s).data.toList = s.data.toList ++ X
  | [], s => by simp
  | b :: X, s => by
    rw [List.map_cons, List.foldl_cons, foldl_push X]
    have : UInt8.ofNat ((b.toNat : Int).toNat) = b := by simp
    rw [this]
    simp [ByteArray.push]
theorem conv_row {w : World} {base : Nat} {v : Value} {X : L} (h : w.ownsRow base 5 1 v X.length (Lib.byteCells X)) : (convert 47 9 v).run Tryd.prog w = .ok (.string ⟨X.toArray⟩) w := by
  have hx := h
  rcases h.2 with ⟨rfl, h0⟩ | ⟨g, cap, cur, rfl, _, hb, hle, _, hsz, htk⟩
  · have : X = [] := List.length_eq_zero_iff.1 h0
    subst this
    exact Lib.run_convert_nil_bytes w _ _ _ 0 Tryd.underlying47 Tryd.underlying5 Tryd.underlying9
  · rw [run_convert_bytes_string w _ _ _ _ _ _ Tryd.underlying47 Tryd.underlying5 Tryd.underlying9]
    have hl : (loadCells ⟨g, 0, none⟩ X.length).run Tryd.prog w = .ok ((X.map fun b => (b.toNat : Int)).map (Value.int .u8)).toArray w := by
      have hbc : ((X.map fun b => (b.toNat : Int)).map (Value.int .u8)) = Lib.byteCells X := by simp [Lib.byteCells]
      rw [hbc]
      have := run_loadCells_list (P := Tryd.prog) (w := w) ⟨g, 0, none⟩ (Lib.byteCells X) (fun j u hj => by
        have hjl : j < X.length := by have := (List.getElem?_eq_some_iff.1 hj).1; rwa [Lib.byteCells_length] at this
        have hc := hx.cellAt j (by omega)
        rw [Go.WideShapes.add_plain, Nat.zero_add]
        exact hc.trans hj)
      rw [Lib.byteCells_length] at this
      exact this
    rw [run_bytesToString w _ _ _ _ hl]
    congr 2
    rw [← Lib.mk_data (List.foldl _ _ _), foldl_push]
    rfl
theorem row_news2 (w : World) (c d : Value) (t : TypeId) : ∀ j u, [c, d][j]? = some u → (w.alloc (.cells #[c, d] t)).cell? ((⟨w.heap.size, 0, none⟩ : Addr).add j) = some u := by
  intro j u hj
  match j, hj with
  | 0, hj => simp at hj; subst hj; simp [Addr.add]
  | 1, hj => simp at hj; subst hj; simp [Addr.add]
theorem own_lit1 (w : World) (c : UInt8) : (w.alloc (.cells #[.int .u8 c.toNat] 5)).ownsRow w.heap.size 5 1 (.slice (some ⟨w.heap.size, 0, none⟩) 1 1) [c].length (Lib.byteCells [c]) :=
  ⟨rfl, .inr ⟨w.heap.size, 1, #[.int .u8 c.toNat], rfl, Nat.le_refl _, heap_alloc_new w _, Nat.le_refl _, by unfold maxLen; omega, rfl, rfl⟩⟩
set_option maxRecDepth 100000 in
set_option maxHeartbeats 4000000 in
theorem rquote_any (s : ByteArray) (w : World) (hs : s.size ≤ 1000000) :
    Calls Tryd.prog 19 #[.string s] w fun e w' => e = .returned (.string ⟨(quo s.data.toList).toArray⟩) ∧ Below w.heap.size w w' := by
  obtain ⟨i0, hinf, hz0, hz1, hz2⟩ := info_parts info8
  have hl0 := own_lit1 w 34
  rw [show (((34 : UInt8).toNat : Nat) : Int) = 34 from rfl] at hl0
  have hb0 : Below w.heap.size w (w.alloc (.cells #[.int .u8 34] 5)) := (Below.refl _ _).alloc (Nat.le_refl _) _
  go_enter Tryd.func19, Tryd.ntmps19
  go_wp2_with fail
  go_loopw [3, 4] (fun v i wr => ∃ (k : Nat) (X : L), k ≤ s.size ∧ i = .int .i64 k ∧ Hid (X = 34 :: (s.data.toList.take k).flatMap q1) ∧ X.length ≤ 2 * k + 1 ∧ Hid (wr.ownsRow w.heap.size 5 1 v X.length (Lib.byteCells X)) ∧ Below w.heap.size w wr) (fun _ i _ => s.size - (intOf i).toNat)
  case atStart => exact ⟨0, [34], by omega, rfl, rfl, by simp, hl0, hb0⟩
  case round =>
    obtain ⟨k, X, hk, rfl, hX, hXl, hown, hb⟩ := hrel
    clear hl0 hb0
    have hwz := hb.size
    by_cases hlt : k < s.size
    · have htk : Hid (s.data.toList.take (k + 1) = s.data.toList.take k ++ [s[k]]) := by
        show _ = _
        rw [List.take_add_one, get_list s k hlt]; rfl
      obtain ⟨c, hc⟩ : ∃ c, s[k] = c := ⟨_, rfl⟩
      rw [hc] at htk
      have hE : Hid (34 :: (s.data.toList.take (k + 1)).flatMap q1 = X ++ q1 c) := by
        show _ = _
        rw [htk.out, quo_snoc, hX.out]; rfl
      by_cases hq : c = 34 ∨ c = 92
      · have hE' : Hid (X ++ [92, c] = 34 :: (s.data.toList.take (k + 1)).flatMap q1) := by show _ = _; rw [hE.out, q1, if_pos hq]
        have hq' : (c.toNat : Int) = 34 ∨ (c.toNat : Int) = 92 := by
          rcases hq with h | h
          · left; rw [h]; rfl
          · right; rw [h]; rfl
        have bc : Hid (Lib.byteCells (X ++ [92, c]) = Lib.byteCells X ++ [.int .u8 92, .int .u8 c.toNat]) := by show _ = _; simp [Lib.byteCells]
        clear hq
        rcases hq' with hq1 | hq1
        all_goals
          rw [hq1] at bc
          have hr1 := hown.out.alloc (.cells #[.int .u8 92, .int .u8 (c.toNat : Int)] 5)
          rw [hq1] at hr1
          go_wp2_with (at_builtin; refine wpList_append_own_at _ rfl _ _ 47 rfl w.heap.size 5 i0 (.int .u8 0) 1 1 Tryd.underlying47 hinf hz0 hz1 hz2 rfl (by decide) _ _ _ rfl hr1 ⟨_, 0, none⟩ 2 2 [.int .u8 92, .int .u8 _] rfl rfl (row_news2 _ _ _ _) (fun x hx => by simp at hx; rcases hx with rfl | rfl <;> rfl) (by unfold maxLen; omega) (by omega) (by simp; omega) ?_; intro v' w3 hown' hgrow _ _)
          have hb4 : Below w.heap.size w w3 := (hb.alloc hwz _).grown hgrow (by simp; omega) (fun k e => (hr1.lt k e).1)
          exact ⟨⟨k + 1, X ++ [92, c], by omega, by go_num, hE'.out, by simp; omega, by rw [bc.out, List.length_append]; exact hown', hb4⟩, by simp [intOf]; omega⟩
      · have n1 : ((c.toNat : Int) == 34) = false := beq8 c 34 (fun e => hq (.inl e))
        have n2 : ((c.toNat : Int) == 92) = false := beq8 c 92 (fun e => hq (.inr e))
        by_cases h10 : c = 10
        · have hE' : Hid (X ++ [92, 110] = 34 :: (s.data.toList.take (k + 1)).flatMap q1) := by show _ = _; rw [hE.out, q1, if_neg hq, if_pos h10]
          have bc : Hid (Lib.byteCells (X ++ [92, 110]) = Lib.byteCells X ++ [.int .u8 92, .int .u8 110]) := by show _ = _; simp [Lib.byteCells]
          have h10' : (c.toNat : Int) = 10 := by rw [h10]; rfl
          have hr1 := hown.out.alloc (.cells #[.int .u8 92, .int .u8 110] 5)
          clear hq h10 n1 n2
          go_wp2_with (at_builtin; refine wpList_append_own_at _ rfl _ _ 47 rfl w.heap.size 5 i0 (.int .u8 0) 1 1 Tryd.underlying47 hinf hz0 hz1 hz2 rfl (by decide) _ _ _ rfl hr1 ⟨_, 0, none⟩ 2 2 [.int .u8 92, .int .u8 110] rfl rfl (row_news2 _ _ _ _) (fun x hx => by simp at hx; rcases hx with rfl | rfl <;> rfl) (by unfold maxLen; omega) (by omega) (by simp; omega) ?_; intro v' w3 hown' hgrow _ _)
          have hb4 : Below w.heap.size w w3 := (hb.alloc hwz _).grown hgrow (by simp; omega) (fun k e => (hr1.lt k e).1)
          exact ⟨⟨k + 1, X ++ [92, 110], by omega, by go_num, hE'.out, by simp; omega, by rw [bc.out, List.length_append]; exact hown', hb4⟩, by simp [intOf]; omega⟩
        · have hE' : Hid (X ++ [c] = 34 :: (s.data.toList.take (k + 1)).flatMap q1) := by show _ = _; rw [hE.out, q1, if_neg hq, if_neg h10]
          have n3 : ((c.toNat : Int) == 10) = false := beq8 c 10 h10
          have hr1 := hown.out.alloc (.cells #[.int .u8 c.toNat] 5)
          clear hq h10
          go_wp2_with (at_builtin; refine wpList_append_own_at _ rfl _ _ 47 rfl w.heap.size 5 i0 (.int .u8 0) 1 1 Tryd.underlying47 hinf hz0 hz1 hz2 rfl (by decide) _ _ _ rfl hr1 ⟨_, 0, none⟩ 1 1 [.int .u8 c.toNat] rfl rfl (row_news1 _ _ _) (fun x hx => by simp at hx; rcases hx with rfl <;> rfl) (by unfold maxLen; omega) (by omega) (by simp; omega) ?_; intro v' w3 hown' hgrow _ _)
          have hb4 : Below w.heap.size w w3 := (hb.alloc hwz _).grown hgrow (by simp; omega) (fun k e => (hr1.lt k e).1)
          exact ⟨⟨k + 1, X ++ [c], by omega, by go_num, hE'.out, by simp; omega, by rw [byteCells_snoc, List.length_append]; exact hown', hb4⟩, by simp [intOf]; omega⟩
    · obtain rfl : k = s.size := by omega
      have hE' : Hid (quo s.data.toList = X ++ [34]) := by
        show _ = _
        rw [hX.out, List.take_of_length_le (by rw [size_list]; omega)]; rfl
      have bc : Hid (Lib.byteCells (X ++ [34]) = Lib.byteCells X ++ [.int .u8 34]) := by show _ = _; simp [Lib.byteCells]
      have hr1 := hown.out.alloc (.cells #[.int .u8 34] 5)
      go_wp2_with (at_builtin; refine wpList_append_own_at _ rfl _ _ 47 rfl w.heap.size 5 i0 (.int .u8 0) 1 1 Tryd.underlying47 hinf hz0 hz1 hz2 rfl (by decide) _ _ _ rfl hr1 ⟨_, 0, none⟩ 1 1 [.int .u8 34] rfl rfl (row_news1 _ _ _) (fun x hx => by simp at hx; rcases hx with rfl <;> rfl) (by unfold maxLen; omega) (by omega) (by simp; omega) ?_)
      intro v' w3 hown' hgrow _ _
      have hb4 : Below w.heap.size w w3 := (hb.alloc hwz _).grown hgrow (by simp; omega) (fun k e => (hr1.lt k e).1)
      have hcv := conv_row (X := X ++ [34]) (w := w3) (base := w.heap.size) (v := v') (by rw [bc.out, List.length_append]; exact hown')
      rw [← hE'.out] at hcv
      go_wp2_with fail
      go_ret
      exact ⟨rfl, hb4⟩
end Go.Proofs.YtcihilaofehomaaDoor
