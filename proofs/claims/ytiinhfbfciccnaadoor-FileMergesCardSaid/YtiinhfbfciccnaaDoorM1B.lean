/- The contract of the reference's Sections. -/
import Derived.Test.YtiinhfbfciccnaaDoorYI
import Derived.Test.YtiinhfbfciccnaaDoorL2B
import Derived.BigQuiet
namespace Go.Proofs.YtiinhfbfciccnaaDoor
open Go.RowKit Go.Shelf
/-- Is it among them? -/
def inS (acc : List ByteArray) (s : ByteArray) : Bool := acc.any fun y => decide (y = s)
/-- One section more. -/
def addS (acc : List ByteArray) (x : St) : List ByteArray := if inS acc x.s then acc else acc ++ [x.s]
/-- The sections in their order. -/
def secs (l : List St) : List ByteArray := l.foldl addS []
theorem inS_take {acc : List ByteArray} {k : Nat} {y s : ByteArray} (h : acc[k]? = some y) : inS (acc.take (k + 1)) s = (inS (acc.take k) s || decide (y = s)) := by
  unfold inS
  rw [List.take_add_one, h, List.any_append]
  simp
theorem hidI6 {p : Prop} (h : p) : Hid p := h
theorem hidS6 {α : Type} {a b : α} (h : a = b) : Hid (b = a) := h.symm
theorem addS_len (acc : List ByteArray) (x : St) : (addS acc x).length ≤ acc.length + 1 := by
  unfold addS
  split
  · omega
  · simp
set_option maxRecDepth 100000 in
set_option maxHeartbeats 8000000 in
theorem rsec_any (v : Value) (l : List St) (w : World) (hs : SlIs (fun _ => False) w v l) (hl : l.length ≤ 1000000) :
    Calls Tryd.prog 22 #[.agg #[v]] w fun e w' => ∃ v', e = .returned v' ∧ w'.ownsRow w.heap.size 9 1 v' (secs l).length ((secs l).map Value.string) ∧ Below w.heap.size w w' := by
  obtain ⟨a, c, rfl, hs1⟩ := id hs
  obtain ⟨j0, jinf, jz0, jz1, jz2⟩ := info_parts infoS
  obtain ⟨n, hn⟩ : ∃ n, l.length = n := ⟨_, rfl⟩
  rw [hn] at hs1 hl ⊢
  have hN : Hid (l.length = n) := hn
  have hsH : Hid (0 < n → ∃ g o, a = some ⟨g, o, none⟩ ∧ ¬ False ∧ StAt w g o l) := hs1
  obtain ⟨W0, hW0⟩ : ∃ W0, w.alloc (.cells #[.slice a n c] 25) = W0 := ⟨_, rfl⟩
  have m0 : Mv (fun _ => False) w W0 := by rw [← hW0]; exact Mv.alloc _ _ _
  have k0 : W0.cell? ⟨w.heap.size, 0, none⟩ = some (.slice a n c) := by rw [← hW0]; exact cell_at rfl rfl
  have hsz0 : Hid (W0.heap.size = w.heap.size + 1) := by show _ = _; rw [← hW0]; simp
  clear hn hs hs1
  go_enter Tryd.func22, Tryd.ntmps22
  go_wp2_with (rw [hW0])
  clear hW0
  go_loopw [3, 4] (fun v3 v4 wx => ∃ (i : Nat) (acc : List ByteArray), i ≤ n ∧ v4 = .int .i64 i ∧ acc.length ≤ i ∧ Hid (acc = (l.take i).foldl addS []) ∧ Hid (wx.ownsRow W0.heap.size 9 1 v3 acc.length (acc.map Value.string)) ∧ Mv (fun _ => False) W0 wx) (fun _ v4 _ => n - (intOf v4).toNat)
  case atStart => exact ⟨0, [], by omega, rfl, by simp, rfl, World.ownsRow_nil _ _ _ _, Mv.refl _ _⟩
  case round =>
    obtain ⟨i, acc, hi, rfl, hal, hacc, hown, hm⟩ := hrel
    have x1 := hm.cell (fun h => h) k0
    by_cases hlt : i < n
    · obtain ⟨g, o, rfl, -, hst⟩ := hsH.out (by omega)
      obtain ⟨x, hx⟩ : ∃ x, l[i]? = some x := ⟨_, List.getElem?_eq_getElem (by rw [hN.out]; exact hlt)⟩
      have p0 := hm.cell (fun h => h) (m0.cell (fun h => h) (hst i x hx).c0)
      have hnx : (l.take (i + 1)).foldl addS [] = addS acc x := by rw [take_snocS hx, List.foldl_append, ← hacc.out]; rfl
      have hnxH : Hid ((l.take (i + 1)).foldl addS [] = addS acc x) := hnx
      have hiI : (i : Int) < (n : Int) := by omega
      obtain ⟨aw, gw, cw, rfl, hw1, hw2⟩ := own_strs hown.out
      obtain ⟨q, hq⟩ : ∃ q, acc.length = q := ⟨_, rfl⟩
      rw [hq] at hw1 hal ⊢
      have hqH : Hid (acc.length = q) := hq
      have hw1H : Hid (0 < q → aw = some ⟨gw, 0, none⟩ ∧ W0.heap.size ≤ gw) := hw1
      have hw2H : Hid (∀ (j : Nat) s, acc[j]? = some s → wr.cell? ⟨gw, j, none⟩ = some (.string s)) := hw2
      have hmH : Hid (Mv (fun _ => False) W0 wr) := hm
      have hownH := hown
      rw [hq] at hownH
      clear hst hx hnx hq hw1 hw2 hacc hm hown
      obtain ⟨W3, hW3⟩ : ∃ W3, wr = W3 := ⟨_, rfl⟩
      rw [hW3] at x1 p0 hw2H hmH hownH ⊢
      clear hW3
      go_wp2_with fail
      go_loopw [5, 6] (fun v5 v6 wx => ∃ (k : Nat), k ≤ q ∧ v6 = .int .i64 k ∧ v5 = .bool (inS (acc.take k) x.s) ∧ Mv (fun _ => False) W3 wx) (fun _ v6 _ => q - (intOf v6).toNat)
      case atStart => exact ⟨0, by omega, rfl, by simp [inS], Mv.refl _ _⟩
      case round =>
        obtain ⟨k, hk, rfl, rfl, hm⟩ := hrel
        have x2 := hm.cell (fun h => h) x1
        have p1 := hm.cell (fun h => h) p0
        by_cases hlk : k < q
        · obtain ⟨y, hy⟩ : ∃ y, acc[k]? = some y := ⟨_, List.getElem?_eq_getElem (by rw [hqH.out]; exact hlk)⟩
          obtain ⟨rfl, -⟩ := hw1H.out (by omega)
          have p2 := hm.cell (fun h => h) (hw2H.out k y hy)
          have hkI : (k : Int) < (q : Int) := by omega
          have hin := inS_take (s := x.s) hy
          have hcmp : (y.toList == x.s.toList) = decide (y = x.s) := str_eq' _ _
          have hmH2 := (show Hid (Mv (fun _ => False) W3 wr) from hm)
          clear hy hm
          cases hb : inS (acc.take k) x.s with
          | true =>
            rw [hb, Bool.true_or] at hin
            have hinH := (show Hid (_ = _) from hin)
            clear hin hb hcmp
            go_upto_region 9 with fail
            go_quiet (fail)
            go_wp2_with fail
            exact ⟨⟨k + 1, by omega, by go_num, by rw [hinH.out], hmH2.out.trans' (mvDrewN _ _)⟩, by simp [intOf]; omega⟩
          | false =>
            rw [hb, Bool.false_or] at hin
            have hinH := (show Hid (_ = _) from hin)
            clear hin hb
            go_upto_region 9 with fail
            go_quiet (fail)
            go_wp2_with fail
            exact ⟨⟨k + 1, by omega, by go_num, by rw [hinH.out], hmH2.out.trans' (mvDrewN _ _)⟩, by simp [intOf]; omega⟩
        · obtain rfl : k = q := by omega
          have hkI : ¬ ((k : Int) < (k : Int)) := by omega
          have hall : acc.take k = acc := List.take_of_length_le (by rw [hqH.out]; omega)
          rw [hall]
          have hm3 := hmH.out.trans' hm
          have hown3 := own_mv hownH.out hm (fun _ _ h => h)
          have hm3H := (show Hid (Mv (fun _ => False) W0 wr) from hm3)
          have hr1 := hown3.alloc (.cells #[.string x.s] 9)
          cases hb : inS acc x.s with
          | true =>
            have hnx2 : Hid ((l.take (i + 1)).foldl addS [] = acc) := by show _ = _; rw [hnxH.out, addS, if_pos hb]
            clear hall hm hm3 hr1 hnxH
            go_wp2_with fail
            exact ⟨⟨i + 1, acc, by omega, by go_num, by have := hqH.out; omega, hidS6 hnx2.out, hidI6 (by rw [hqH.out]; exact hown3), hm3H.out⟩, by simp [intOf]; omega⟩
          | false =>
            have hnx2 : Hid ((l.take (i + 1)).foldl addS [] = acc ++ [x.s]) := by show _ = _; rw [hnxH.out, addS, if_neg (by rw [hb]; simp)]
            clear hall hm hm3 hnxH hown3
            go_wp2_with (at_builtin; refine wpList_append_own_at _ rfl _ _ 38 rfl W0.heap.size 9 j0 (.string ⟨#[]⟩) 1 16 Tryd.underlying38 jinf jz0 jz1 jz2 rfl (by decide) _ _ _ rfl hr1 ⟨_, 0, none⟩ 1 1 [.string x.s] rfl rfl (row_news1 _ _ _) (fun x hx => by simp at hx; subst hx; rfl) (by unfold maxLen; omega) (by omega) (by have := hm3H.out.size; simp; omega) ?_)
            intro v' w4 hown' hgrow _ _
            have mg : Mv (fun _ => False) W0 w4 := (hm3H.out.trans' (Mv.alloc _ _ _)).grown hgrow (fun k e => .inr (hr1.lt k e).1)
            go_wp2_with fail
            exact ⟨⟨i + 1, acc ++ [x.s], by omega, by go_num, by have := hqH.out; simp; omega, hidS6 hnx2.out, hidI6 (by rw [List.length_append, hqH.out]; simpa using hown'), mg⟩, by simp [intOf]; omega⟩
    · obtain rfl : i = n := by omega
      have hiI : ¬ ((i : Int) < (i : Int)) := by omega
      have hfin : acc = secs l := by rw [hacc.out, List.take_of_length_le (by rw [hN.out]; omega)]; rfl
      subst hfin
      have hbf : Below w.heap.size w wr := (m0.toBelow (Nat.le_refl _) (fun _ _ h => h)).trans (hm.toBelow m0.size (fun _ _ h => h))
      clear hacc
      go_wp2_with fail
      go_ret
      exact ⟨_, rfl, own_base hown.out (by have := hsz0.out; omega), hbf⟩
end Go.Proofs.YtiinhfbfciccnaaDoor
