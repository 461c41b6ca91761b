import Derived.Test.YtehlnhljpdjppaaGreatDoorShelf
import Derived.Test.YtehlnhljpdjppaaGreatDoorZB
import Derived.Test.YtehlnhljpdjppaaGreatDoorZA
import Derived.RangeFuncBox
import Derived.Maps.AppendAt
import Derived.OwnWalk
/- Contracts of package calendar's parseNumber, parseRow, parsePart, parseWeekday, parseWeekdays. -/
namespace Go.Proofs.YtehlnhljpdjppaaGreatDoor
open Go.RowKit
structure GlP (w : World) : Prop where
  gl : Gl (fun _ => False) w
  mx : ∃ m, w.cell? ⟨2, 0, none⟩ = some (.int .i64 m)
theorem GlP.below {w w' : World} (h : GlP w) (hb : Below w.heap.size w w') : GlP w' :=
  ⟨h.gl.mv (Mv.below hb) (Gr.refl _ _), by obtain ⟨m, hm⟩ := h.mx; exact ⟨m, (hb.cell (p := ⟨2, 0, none⟩) (cell_lt hm)).trans hm⟩⟩
def numL : Int → List UInt8 → Option Int
  | n, [] => some n
  | n, b :: l => if 48 ≤ b.toNat ∧ b.toNat ≤ 57 then numL (10 * n + ((b.toNat : Int) - 48)) l else none
def pNum (s : ByteArray) : Int × Bool := if 1 ≤ s.size ∧ s.size ≤ 4 then (((numL 0 s.data.toList).getD 0), (numL 0 s.data.toList).isSome) else (0, false)
theorem size_list (s : ByteArray) : s.data.toList.length = s.size := by rw [Array.length_toList]; rfl
theorem drop_step (s : ByteArray) (k : Nat) (h : k < s.size) : s.data.toList.drop k = s[k] :: s.data.toList.drop (k + 1) := by
  rw [List.drop_eq_getElem_cons (by rw [size_list]; exact h)]; rfl
set_option maxHeartbeats 1000000 in
theorem parseNumber_any (s : ByteArray) (w : World) :
    Calls Tryz.prog 98 #[.string s] w fun e w' => e = .returned (.tuple #[.int .i64 (pNum s).1, .bool (pNum s).2]) ∧ w' = w := by
  by_cases hz : 1 ≤ s.size ∧ s.size ≤ 4
  · have hP : Hid (pNum s = (((numL 0 s.data.toList).getD 0), (numL 0 s.data.toList).isSome)) := by show _ = _; unfold pNum; rw [if_pos hz]
    obtain ⟨z1, z4⟩ := hz
    go_enter Tryz.func98, Tryz.ntmps98
    go_wp2
    go_loop [4, 16] (fun n i => ∃ (k : Nat) (v : Int), k ≤ s.size ∧ i = .int .i64 k ∧ n = .int .i64 v ∧ Hid (numL 0 s.data.toList = numL v (s.data.toList.drop k)) ∧ 0 ≤ v ∧ ((k = 0 ∧ v = 0) ∨ (k = 1 ∧ v ≤ 9) ∨ (k = 2 ∧ v ≤ 99) ∨ (k = 3 ∧ v ≤ 999) ∨ (k = 4 ∧ v ≤ 9999))) (fun _ i => s.size - (intOf i).toNat)
    case atStart => exact ⟨0, 0, by omega, rfl, rfl, rfl, by omega, by omega⟩
    case round =>
      obtain ⟨k, v, hk, rfl, rfl, hh, v0, hv⟩ := hrel
      have v1 : v ≤ 9999 := by omega
      by_cases hlt : k < s.size
      · have hd : Hid (s.data.toList.drop k = s[k] :: s.data.toList.drop (k + 1)) := drop_step s k hlt
        have hv' : Hid ((k = 0 ∧ v = 0) ∨ (k = 1 ∧ v ≤ 9) ∨ (k = 2 ∧ v ≤ 99) ∨ (k = 3 ∧ v ≤ 999) ∨ (k = 4 ∧ v ≤ 9999)) := hv
        clear hv
        have hb := s[k].toNat_lt
        by_cases hc : 48 ≤ s[k].toNat ∧ s[k].toNat ≤ 57
        · have hn : Hid (numL v (s.data.toList.drop k) = numL (10 * v + ((s[k].toNat : Int) - 48)) (s.data.toList.drop (k + 1))) := by show _ = _; rw [hd.out, numL, if_pos hc]
          obtain ⟨c1, c2⟩ := hc
          go_wp2
          refine ⟨⟨k + 1, 10 * v + ((s[k].toNat : Int) - 48), by omega, by go_num, by go_num, hh.out.trans hn.out, by omega, ?_⟩, by simp [intOf]; omega⟩
          have := hv'.out
          omega
        · have hn : Hid (numL v (s.data.toList.drop k) = none) := by show _ = _; rw [hd.out, numL, if_neg hc]
          have hc' : s[k].toNat < 48 ∨ 57 < s[k].toNat := by omega
          clear hc
          rcases hc' with hc | hc
          all_goals
            go_wp2
            go_ret2
            refine ⟨?_, rfl⟩
            rw [hP.out, hh.out, hn.out]; rfl
      · obtain rfl : k = s.size := by omega
        clear hv
        go_wp2
        go_ret2
        refine ⟨?_, rfl⟩
        rw [hP.out, hh.out, List.drop_of_length_le (by rw [size_list]; omega)]; rfl
  · have hP : Hid (pNum s = (0, false)) := by show _ = _; unfold pNum; rw [if_neg hz]
    have hz' : s.size < 1 ∨ 4 < s.size := by omega
    clear hz
    rcases hz' with hz | hz
    all_goals
      go_enter Tryz.func98, Tryz.ntmps98
      go_wp2
      go_ret2
      exact ⟨by rw [hP.out]; rfl, rfl⟩
def cutA (s : ByteArray) (sep : List UInt8) : ByteArray := ⟨(Lib.cut s.data.toList sep).1.toArray⟩
def cutZ (s : ByteArray) (sep : List UInt8) : ByteArray := ⟨(Lib.cut s.data.toList sep).2.1.toArray⟩
def cutF (s : ByteArray) (sep : List UInt8) : Bool := (Lib.cut s.data.toList sep).2.2
theorem cut_any (s sep : ByteArray) (w : World) (hg : GlP w) (hs : s.size ≤ 100000) :
    Calls Tryz.prog 73 #[.string s, .string sep] w fun e w' => e = .returned (.tuple #[.string (cutA s sep.data.toList), .string (cutZ s sep.data.toList), .bool (cutF s sep.data.toList)]) ∧ Below w.heap.size w w' := by
  obtain ⟨m, hm⟩ := hg.mx
  refine (Tryz.strings_Cut s sep m w (by omega) hm).mono ?_
  rintro e w' ⟨rfl, n, rfl⟩
  exact ⟨rfl, below_drewN _ _⟩
theorem cutA_le (s : ByteArray) (sep : List UInt8) : (cutA s sep).size ≤ s.size := by
  have : (Lib.cut s.data.toList sep).1.length ≤ s.data.toList.length := by
    unfold Lib.cut
    split
    · rw [List.length_take]; exact Nat.min_le_right _ _
    · exact Nat.le_refl _
  unfold cutA
  rw [← size_list, ← size_list]
  simpa using this
abbrev str1 (b : UInt8) : ByteArray := ⟨#[b]⟩
def pRow (s : ByteArray) (stepped : Bool) (lo hi : Int) : Part × Bool :=
  if (s.toList == [42]) = true then ((false, lo, hi, 0), stepped)
  else if cutF s [46, 46] = true then ((false, (pNum (cutA s [46, 46])).1, (pNum (cutZ s [46, 46])).1, 0), (pNum (cutA s [46, 46])).2 && (pNum (cutZ s [46, 46])).2)
  else if stepped = true then ((false, (pNum (cutA s [46, 46])).1, hi, 0), (pNum (cutA s [46, 46])).2)
  else ((false, (pNum (cutA s [46, 46])).1, (pNum (cutA s [46, 46])).1, 0), (pNum (cutA s [46, 46])).2)
/-- Two blocks that a call has laid, behind a step that keeps what lay. -/
theorem two_kept {w w1 : World} {a b : Array Value} {ta tb : TypeId} (hb : Below ((w.alloc (.cells a ta)).alloc (.cells b tb)).heap.size ((w.alloc (.cells a ta)).alloc (.cells b tb)) w1) :
    w.heap.size + 1 < w1.heap.size ∧ (∀ j v, a[j]? = some v → w1.cell? ⟨w.heap.size, j, none⟩ = some v) ∧ (∀ j v, b[j]? = some v → w1.cell? ⟨w.heap.size + 1, j, none⟩ = some v) ∧ (∀ j, w1.frozen? ⟨w.heap.size + 1, j, none⟩ = false) := by
  have hz := hb.size
  simp at hz
  refine ⟨by omega, fun j v h => ?_, fun j v h => ?_, fun j => ?_⟩
  · rw [hb.cell (p := ⟨w.heap.size, j, none⟩) (by simp; omega), cell_old (by simp)]; exact cell_at rfl h
  · rw [hb.cell (p := ⟨w.heap.size + 1, j, none⟩) (by simp)]; exact cell_at (by simp) h
  · rw [hb.frozen (p := ⟨w.heap.size + 1, j, none⟩) (by simp)]
    have := World.frozen?_alloc_new (w.alloc (.cells a ta)) b tb j
    rw [World.size_alloc] at this; exact this
theorem below_two {w : World} (o o' : Obj) : Below w.heap.size w ((w.alloc o).alloc o') := ((Below.refl _ w).alloc (Nat.le_refl _) _).alloc (by simp) _
theorem below_set4 {w W : World} {n b : Nat} (h : Below n w W) (hb : n ≤ b) (v0 v1 v2 v3 : Value) : Below n w ((((W.setCell ⟨b, 0, none⟩ v0).setCell ⟨b, 1, none⟩ v1).setCell ⟨b, 2, none⟩ v2).setCell ⟨b, 3, none⟩ v3) :=
  (((h.setCell (p := ⟨b, 0, none⟩) hb _).setCell (p := ⟨b, 1, none⟩) hb _).setCell (p := ⟨b, 2, none⟩) hb _).setCell (p := ⟨b, 3, none⟩) hb _
set_option maxRecDepth 100000 in
set_option maxHeartbeats 2000000 in
theorem parseRow_any (s : ByteArray) (st : Bool) (lo hi : Int) (w : World) (hg : GlP w) (hs : s.size ≤ 100000) :
    Calls Tryz.prog 97 #[.string s, .bool st, .agg #[.int .i64 lo, .int .i64 hi]] w fun e w' => e = .returned (.tuple #[aggP (pRow s st lo hi).1, .bool (pRow s st lo hi).2]) ∧ Below w.heap.size w w' := by
  cases hstar : (s.toList == [42])
  · have hB := below_two (w := w) (.cells #[.int .i64 lo, .int .i64 hi] 66) (.cells #[.bool false, .int .i64 0, .int .i64 0, .int .i64 0] 80)
    obtain ⟨a, ha⟩ : ∃ a, cutA s [46, 46] = a := ⟨_, rfl⟩
    obtain ⟨z, hz⟩ : ∃ z, cutZ s [46, 46] = z := ⟨_, rfl⟩
    cases hf : cutF s [46, 46]
    · cases st
      · have hP : Hid (pRow s false lo hi = ((false, (pNum a).1, (pNum a).1, 0), (pNum a).2)) := by show _ = _; unfold pRow; rw [hstar, hf, ha]; rfl
        go_enter Tryz.func97, Tryz.ntmps97
        go_wp2_with fail
        refine (cut_any s _ _ (hg.below hB) hs).mono ?_
        simp only [ha, hz, hf]
        rintro e w1 ⟨rfl, hb1⟩
        obtain ⟨wl, ca, cb, cf⟩ := two_kept hb1
        have k0 := cb 0 _ rfl
        have k1 := cb 1 _ rfl
        have k2 := cb 2 _ rfl
        have k3 := cb 3 _ rfl
        have f0 := cf 0
        have f1 := cf 1
        have f2 := cf 2
        have f3 := cf 3
        have q0 := ca 0 _ rfl
        have q1 := ca 1 _ rfl
        have hB2 := hB.trans (hb1.mono (by simp; omega))
        clear ca cb cf
        go_wp2_with fail
        refine (parseNumber_any _ _).mono ?_
        rintro e w2 ⟨rfl, rfl⟩
        go_wp2_with fail
        refine bodyPost_ret (v := .tuple #[.agg #[.bool false, .int .i64 (pNum a).1, .int .i64 ((pNum a).1), .int .i64 0], .bool ((pNum a).2)]) (by simp [results, Tryz.results97, go_sem, k0, k1, k2, k3]) rfl ⟨by rw [hP.out]; rfl, ?_⟩
        exact below_set4 hB2 (by omega) _ _ _ _
      · have hP : Hid (pRow s true lo hi = ((false, (pNum a).1, hi, 0), (pNum a).2)) := by show _ = _; unfold pRow; rw [hstar, hf, ha]; rfl
        go_enter Tryz.func97, Tryz.ntmps97
        go_wp2_with fail
        refine (cut_any s _ _ (hg.below hB) hs).mono ?_
        simp only [ha, hz, hf]
        rintro e w1 ⟨rfl, hb1⟩
        obtain ⟨wl, ca, cb, cf⟩ := two_kept hb1
        have k0 := cb 0 _ rfl
        have k1 := cb 1 _ rfl
        have k2 := cb 2 _ rfl
        have k3 := cb 3 _ rfl
        have f0 := cf 0
        have f1 := cf 1
        have f2 := cf 2
        have f3 := cf 3
        have q0 := ca 0 _ rfl
        have q1 := ca 1 _ rfl
        have hB2 := hB.trans (hb1.mono (by simp; omega))
        clear ca cb cf
        go_wp2_with fail
        refine (parseNumber_any _ _).mono ?_
        rintro e w2 ⟨rfl, rfl⟩
        go_wp2_with fail
        refine bodyPost_ret (v := .tuple #[.agg #[.bool false, .int .i64 (pNum a).1, .int .i64 (hi), .int .i64 0], .bool ((pNum a).2)]) (by simp [results, Tryz.results97, go_sem, k0, k1, k2, k3]) rfl ⟨by rw [hP.out]; rfl, ?_⟩
        exact below_set4 hB2 (by omega) _ _ _ _
    · have hP : Hid (pRow s st lo hi = ((false, (pNum a).1, (pNum z).1, 0), (pNum a).2 && (pNum z).2)) := by show _ = _; unfold pRow; rw [hstar, hf, ha, hz]; rfl
      cases hok : (pNum a).2
      all_goals
        go_enter Tryz.func97, Tryz.ntmps97
        go_wp2_with fail
        refine (cut_any s _ _ (hg.below hB) hs).mono ?_
        simp only [ha, hz, hf]
        rintro e w1 ⟨rfl, hb1⟩
        obtain ⟨wl, ca, cb, cf⟩ := two_kept hb1
        have k0 := cb 0 _ rfl
        have k1 := cb 1 _ rfl
        have k2 := cb 2 _ rfl
        have k3 := cb 3 _ rfl
        have f0 := cf 0
        have f1 := cf 1
        have f2 := cf 2
        have f3 := cf 3
        have q0 := ca 0 _ rfl
        have q1 := ca 1 _ rfl
        have hB2 := hB.trans (hb1.mono (by simp; omega))
        clear ca cb cf
        go_wp2_with fail
        refine (parseNumber_any _ _).mono ?_
        rintro e w2 ⟨rfl, rfl⟩
        go_wp2_with fail
        refine (parseNumber_any _ _).mono ?_
        rintro e w2 ⟨rfl, rfl⟩
        go_wp2_with fail
        refine bodyPost_ret (v := .tuple #[.agg #[.bool false, .int .i64 (pNum a).1, .int .i64 (pNum z).1, .int .i64 0], .bool ((pNum a).2 && (pNum z).2)]) (by simp [results, Tryz.results97, go_sem, k0, k1, k2, k3, hok]) rfl ⟨by rw [hP.out]; rfl, ?_⟩
        exact below_set4 hB2 (by omega) _ _ _ _
  · have hP : Hid (pRow s st lo hi = ((false, lo, hi, 0), st)) := by show _ = _; unfold pRow; rw [hstar]; rfl
    go_enter Tryz.func97, Tryz.ntmps97
    go_wp2_with fail
    refine bodyPost_ret (v := .tuple #[.agg #[.bool false, .int .i64 lo, .int .i64 hi, .int .i64 0], .bool st]) (by simp [results, Tryz.results97, go_sem]) rfl ⟨by rw [hP.out]; rfl, ?_⟩
    exact below_two _ _
theorem ret_ib {a b : Int} {c d : Bool} (h : a = b) (k : c = d) : Ending.returned (.tuple #[.int .i64 a, .bool c]) = .returned (.tuple #[.int .i64 b, .bool d]) := by rw [h, k]
def pPart (s : ByteArray) (lo hi : Int) : Part × Bool :=
  if (pRow (cutA s [47]) (cutF s [47]) lo hi).2 = true ∧ cutF s [47] = true then
    (((pRow (cutA s [47]) (cutF s [47]) lo hi).1.1, (pRow (cutA s [47]) (cutF s [47]) lo hi).1.2.1, (pRow (cutA s [47]) (cutF s [47]) lo hi).1.2.2.1, (pNum (cutZ s [47])).1), (pNum (cutZ s [47])).2 && decide (0 < (pNum (cutZ s [47])).1))
  else pRow (cutA s [47]) (cutF s [47]) lo hi
def wdays : List UInt8 := [77, 111, 110, 84, 117, 101, 87, 101, 100, 84, 104, 117, 70, 114, 105, 83, 97, 116, 83, 117, 110]
def wIx (s : ByteArray) : Int := Lib.index wdays s.data.toList
def pWd (s : ByteArray) : Int × Bool := ((wIx s).tdiv 3, decide (s.size = 3) && (decide (0 ≤ wIx s) && decide ((wIx s).tmod 3 = 0)))
set_option maxHeartbeats 2000000 in
theorem parseWeekday_any (s : ByteArray) (w : World) (hg : GlP w) :
    Calls Tryz.prog 74 #[.string s] w fun e w' => e = .returned (.tuple #[.int .i64 (pWd s).1, .bool (pWd s).2]) ∧ w' = w := by
  obtain ⟨m, hm⟩ := hg.mx
  have hr : -1 ≤ wIx s := Lib.index_ge _ _
  have hr2 : wIx s ≤ 21 := Lib.index_le wdays s.data.toList
  have hI : ∀ w : World, w.cell? ⟨2, 0, none⟩ = some (.int .i64 m) → Calls Tryz.prog 75 #[.string { data := #[77, 111, 110, 84, 117, 101, 87, 101, 100, 84, 104, 117, 70, 114, 105, 83, 97, 116, 83, 117, 110] }, .string s] w fun e w' => e = .returned (.int .i64 (wIx s)) ∧ w' = w := fun w hm => Tryz.strings_Index _ s m w (by decide) hm
  unfold pWd
  obtain ⟨x, hxe⟩ : ∃ x, wIx s = x := ⟨_, rfl⟩
  simp only [hxe] at hr hr2 hI ⊢
  clear hxe
  have hx : x = -1 ∨ (0 ≤ x ∧ x ≤ 21) := by omega
  by_cases h3 : s.size = 3
  all_goals
    rcases hx with rfl | ⟨x0, x1⟩
    all_goals
      go_enter Tryz.func74, Tryz.ntmps74
      go_wp2_with fail
      refine (hI _ hm).mono ?_
      rintro e w1 ⟨rfl, rfl⟩
      go_wp2_with fail
      go_ret2
      refine ⟨ret_ib ?_ ?_, rfl⟩
      · first
          | exact (Int.tdiv_eq_ediv_of_nonneg x0).symm
          | decide
      · first
          | (simp [h3]; done)
          | (rw [Int.tmod_eq_emod_of_nonneg x0, Bool.eq_iff_iff]; simp [h3, x0]; done)
def pWds (s : ByteArray) : Part × Bool :=
  if cutF s [46, 46] = true then ((false, (pWd (cutA s [46, 46])).1, (pWd (cutZ s [46, 46])).1, 0), (pWd (cutA s [46, 46])).2 && (pWd (cutZ s [46, 46])).2)
  else ((false, (pWd (cutA s [46, 46])).1, (pWd (cutA s [46, 46])).1, 0), (pWd (cutA s [46, 46])).2 && (pWd (cutA s [46, 46])).2)
theorem one_kept {w w1 : World} {b : Array Value} {tb : TypeId} (hb : Below (w.alloc (.cells b tb)).heap.size (w.alloc (.cells b tb)) w1) :
    w.heap.size < w1.heap.size ∧ (∀ j v, b[j]? = some v → w1.cell? ⟨w.heap.size, j, none⟩ = some v) ∧ (∀ j, w1.frozen? ⟨w.heap.size, j, none⟩ = false) := by
  have hz := hb.size
  simp at hz
  refine ⟨by omega, fun j v h => ?_, fun j => ?_⟩
  · rw [hb.cell (p := ⟨w.heap.size, j, none⟩) (by simp)]; exact cell_at rfl h
  · rw [hb.frozen (p := ⟨w.heap.size, j, none⟩) (by simp)]; exact World.frozen?_alloc_new _ _ _ _
set_option maxRecDepth 100000 in
set_option maxHeartbeats 2000000 in
theorem parseWeekdays_any (s : ByteArray) (w : World) (hg : GlP w) (hs : s.size ≤ 100000) :
    Calls Tryz.prog 53 #[.string s] w fun e w' => e = .returned (.tuple #[aggP (pWds s).1, .bool (pWds s).2]) ∧ Below w.heap.size w w' := by
  have hB : Below w.heap.size w (w.alloc (.cells #[.bool false, .int .i64 0, .int .i64 0, .int .i64 0] 80)) := (Below.refl _ _).alloc (Nat.le_refl _) _
  obtain ⟨a, ha⟩ : ∃ a, cutA s [46, 46] = a := ⟨_, rfl⟩
  obtain ⟨z, hz⟩ : ∃ z, cutZ s [46, 46] = z := ⟨_, rfl⟩
  cases hf : cutF s [46, 46]
  · have hP : Hid (pWds s = ((false, (pWd a).1, (pWd a).1, 0), (pWd a).2 && (pWd a).2)) := by show _ = _; unfold pWds; rw [hf, ha]; rfl
    cases hok : (pWd a).2
    all_goals
      go_enter Tryz.func53, Tryz.ntmps53
      go_wp2_with fail
      refine (cut_any s _ _ (hg.below hB) hs).mono ?_
      simp only [ha, hz, hf]
      rintro e w1 ⟨rfl, hb1⟩
      obtain ⟨wl, cb, cf⟩ := one_kept hb1
      have k0 := cb 0 _ rfl
      have k1 := cb 1 _ rfl
      have k2 := cb 2 _ rfl
      have k3 := cb 3 _ rfl
      have f0 := cf 0
      have f1 := cf 1
      have f2 := cf 2
      have f3 := cf 3
      have hB2 := hB.trans (hb1.mono (by simp))
      have hg1 := hg.below hB2
      clear cb cf
      go_wp2_with fail
      refine (parseWeekday_any a _ hg1).mono ?_
      rintro e w2 ⟨rfl, rfl⟩
      go_wp2_with fail
      refine (parseWeekday_any a _ hg1).mono ?_
      rintro e w2 ⟨rfl, rfl⟩
      go_wp2_with fail
      refine bodyPost_ret (v := .tuple #[.agg #[.bool false, .int .i64 (pWd a).1, .int .i64 (pWd a).1, .int .i64 0], .bool ((pWd a).2 && (pWd a).2)]) (by simp [results, Tryz.results53, go_sem, k0, k1, k2, k3, hok]) rfl ⟨by rw [hP.out]; rfl, ?_⟩
      exact below_set4 hB2 (by omega) _ _ _ _
  · have hP : Hid (pWds s = ((false, (pWd a).1, (pWd z).1, 0), (pWd a).2 && (pWd z).2)) := by show _ = _; unfold pWds; rw [hf, ha, hz]; rfl
    cases hok : (pWd a).2
    all_goals
      go_enter Tryz.func53, Tryz.ntmps53
      go_wp2_with fail
      refine (cut_any s _ _ (hg.below hB) hs).mono ?_
      simp only [ha, hz, hf]
      rintro e w1 ⟨rfl, hb1⟩
      obtain ⟨wl, cb, cf⟩ := one_kept hb1
      have k0 := cb 0 _ rfl
      have k1 := cb 1 _ rfl
      have k2 := cb 2 _ rfl
      have k3 := cb 3 _ rfl
      have f0 := cf 0
      have f1 := cf 1
      have f2 := cf 2
      have f3 := cf 3
      have hB2 := hB.trans (hb1.mono (by simp))
      have hg1 := hg.below hB2
      clear cb cf
      go_wp2_with fail
      refine (parseWeekday_any a _ hg1).mono ?_
      rintro e w2 ⟨rfl, rfl⟩
      go_wp2_with fail
      refine (parseWeekday_any z _ hg1).mono ?_
      rintro e w2 ⟨rfl, rfl⟩
      go_wp2_with fail
      refine bodyPost_ret (v := .tuple #[.agg #[.bool false, .int .i64 (pWd a).1, .int .i64 (pWd z).1, .int .i64 0], .bool ((pWd a).2 && (pWd z).2)]) (by simp [results, Tryz.results53, go_sem, k0, k1, k2, k3, hok]) rfl ⟨by rw [hP.out]; rfl, ?_⟩
      exact below_set4 hB2 (by omega) _ _ _ _
end Go.Proofs.YtehlnhljpdjppaaGreatDoor
/- The contract of package calendar's parsePart. -/
namespace Go.Proofs.YtehlnhljpdjppaaGreatDoor
open Go.RowKit
set_option maxRecDepth 100000 in
set_option maxHeartbeats 2000000 in
theorem parsePart_any (s : ByteArray) (lo hi : Int) (w : World) (hg : GlP w) (hs : s.size ≤ 100000) :
    Calls Tryz.prog 88 #[.string s, .agg #[.int .i64 lo, .int .i64 hi]] w fun e w' => e = .returned (.tuple #[aggP (pPart s lo hi).1, .bool (pPart s lo hi).2]) ∧ Below w.heap.size w w' := by
  have hB := below_two (w := w) (.cells #[.int .i64 lo, .int .i64 hi] 66) (.cells #[.bool false, .int .i64 0, .int .i64 0, .int .i64 0] 80)
  have hal := cutA_le s [47]
  obtain ⟨a, ha⟩ : ∃ a, cutA s [47] = a := ⟨_, rfl⟩
  obtain ⟨z, hz⟩ : ∃ z, cutZ s [47] = z := ⟨_, rfl⟩
  obtain ⟨r, hr⟩ : ∃ r, cutF s [47] = r := ⟨_, rfl⟩
  obtain ⟨q, hq⟩ : ∃ q, pRow a r lo hi = q := ⟨_, rfl⟩
  obtain ⟨⟨qa, qf, qt, qs⟩, qok⟩ := q
  rw [ha] at hal
  have hR := fun w hg => parseRow_any a r lo hi w hg (by omega)
  simp only [hq, aggP] at hR
  have hP : Hid (pPart s lo hi = if qok = true ∧ r = true then ((qa, qf, qt, (pNum z).1), (pNum z).2 && decide (0 < (pNum z).1)) else ((qa, qf, qt, qs), qok)) := by show _ = _; unfold pPart; rw [ha, hz, hr, hq]
  cases qok
  · cases r
    all_goals
      go_enter Tryz.func88, Tryz.ntmps88
      go_wp2_with fail
      refine (cut_any s _ _ (hg.below hB) hs).mono ?_
      simp only [ha, hz, hr]
      rintro e w1 ⟨rfl, hb1⟩
      obtain ⟨wl, ca, cb, cf⟩ := two_kept hb1
      have q0 := ca 0 _ rfl
      have q1 := ca 1 _ rfl
      have hB2 := hB.trans (hb1.mono (by simp; omega))
      have hg1 := hg.below hB2
      go_wp2_with fail
      refine (hR _ hg1).mono ?_
      rintro e w2 ⟨rfl, hb2⟩
      have wz := hb2.size
      have p0 := (hb2.cell (p := ⟨w.heap.size + 1, 0, none⟩) wl).trans (cb 0 _ rfl)
      have p1 := (hb2.cell (p := ⟨w.heap.size + 1, 1, none⟩) wl).trans (cb 1 _ rfl)
      have p2 := (hb2.cell (p := ⟨w.heap.size + 1, 2, none⟩) wl).trans (cb 2 _ rfl)
      have p3 := (hb2.cell (p := ⟨w.heap.size + 1, 3, none⟩) wl).trans (cb 3 _ rfl)
      have g0 := (hb2.frozen (p := ⟨w.heap.size + 1, 0, none⟩) wl).trans (cf 0)
      have g1 := (hb2.frozen (p := ⟨w.heap.size + 1, 1, none⟩) wl).trans (cf 1)
      have g2 := (hb2.frozen (p := ⟨w.heap.size + 1, 2, none⟩) wl).trans (cf 2)
      have g3 := (hb2.frozen (p := ⟨w.heap.size + 1, 3, none⟩) wl).trans (cf 3)
      have wl2 : w.heap.size + 1 < w2.heap.size := by omega
      have hB3 := hB2.trans (hb2.mono (by omega))
      clear ca cb cf q0 q1
      go_wp2_with fail
      refine bodyPost_ret (v := .tuple #[.agg #[.bool qa, .int .i64 qf, .int .i64 qt, .int .i64 qs], .bool false]) (by simp [results, Tryz.results88, go_sem, p0, p1, p2, p3, wl2]) rfl ⟨by rw [hP.out]; rfl, ?_⟩
      exact (below_set4 (b := w.heap.size + 1) hB3 (by omega) _ _ _ _).alloc (by simp; omega) _
  · cases r
    · go_enter Tryz.func88, Tryz.ntmps88
      go_wp2_with fail
      refine (cut_any s _ _ (hg.below hB) hs).mono ?_
      simp only [ha, hz, hr]
      rintro e w1 ⟨rfl, hb1⟩
      obtain ⟨wl, ca, cb, cf⟩ := two_kept hb1
      have q0 := ca 0 _ rfl
      have q1 := ca 1 _ rfl
      have hB2 := hB.trans (hb1.mono (by simp; omega))
      have hg1 := hg.below hB2
      go_wp2_with fail
      refine (hR _ hg1).mono ?_
      rintro e w2 ⟨rfl, hb2⟩
      have wz := hb2.size
      have p0 := (hb2.cell (p := ⟨w.heap.size + 1, 0, none⟩) wl).trans (cb 0 _ rfl)
      have p1 := (hb2.cell (p := ⟨w.heap.size + 1, 1, none⟩) wl).trans (cb 1 _ rfl)
      have p2 := (hb2.cell (p := ⟨w.heap.size + 1, 2, none⟩) wl).trans (cb 2 _ rfl)
      have p3 := (hb2.cell (p := ⟨w.heap.size + 1, 3, none⟩) wl).trans (cb 3 _ rfl)
      have g0 := (hb2.frozen (p := ⟨w.heap.size + 1, 0, none⟩) wl).trans (cf 0)
      have g1 := (hb2.frozen (p := ⟨w.heap.size + 1, 1, none⟩) wl).trans (cf 1)
      have g2 := (hb2.frozen (p := ⟨w.heap.size + 1, 2, none⟩) wl).trans (cf 2)
      have g3 := (hb2.frozen (p := ⟨w.heap.size + 1, 3, none⟩) wl).trans (cf 3)
      have wl2 : w.heap.size + 1 < w2.heap.size := by omega
      have hB3 := hB2.trans (hb2.mono (by omega))
      clear ca cb cf q0 q1
      go_wp2_with fail
      refine bodyPost_ret (v := .tuple #[.agg #[.bool qa, .int .i64 qf, .int .i64 qt, .int .i64 qs], .bool true]) (by simp [results, Tryz.results88, go_sem, p0, p1, p2, p3, wl2]) rfl ⟨by rw [hP.out]; rfl, ?_⟩
      exact (below_set4 (b := w.heap.size + 1) hB3 (by omega) _ _ _ _).alloc (by simp; omega) _
    · cases hok : (pNum z).2
      · go_enter Tryz.func88, Tryz.ntmps88
        go_wp2_with fail
        refine (cut_any s _ _ (hg.below hB) hs).mono ?_
        simp only [ha, hz, hr]
        rintro e w1 ⟨rfl, hb1⟩
        obtain ⟨wl, ca, cb, cf⟩ := two_kept hb1
        have q0 := ca 0 _ rfl
        have q1 := ca 1 _ rfl
        have hB2 := hB.trans (hb1.mono (by simp; omega))
        have hg1 := hg.below hB2
        go_wp2_with fail
        refine (hR _ hg1).mono ?_
        rintro e w2 ⟨rfl, hb2⟩
        have wz := hb2.size
        have p0 := (hb2.cell (p := ⟨w.heap.size + 1, 0, none⟩) wl).trans (cb 0 _ rfl)
        have p1 := (hb2.cell (p := ⟨w.heap.size + 1, 1, none⟩) wl).trans (cb 1 _ rfl)
        have p2 := (hb2.cell (p := ⟨w.heap.size + 1, 2, none⟩) wl).trans (cb 2 _ rfl)
        have p3 := (hb2.cell (p := ⟨w.heap.size + 1, 3, none⟩) wl).trans (cb 3 _ rfl)
        have g0 := (hb2.frozen (p := ⟨w.heap.size + 1, 0, none⟩) wl).trans (cf 0)
        have g1 := (hb2.frozen (p := ⟨w.heap.size + 1, 1, none⟩) wl).trans (cf 1)
        have g2 := (hb2.frozen (p := ⟨w.heap.size + 1, 2, none⟩) wl).trans (cf 2)
        have g3 := (hb2.frozen (p := ⟨w.heap.size + 1, 3, none⟩) wl).trans (cf 3)
        have wl2 : w.heap.size + 1 < w2.heap.size := by omega
        have hB3 := hB2.trans (hb2.mono (by omega))
        clear ca cb cf q0 q1
        go_wp2_with fail
        refine (parseNumber_any z _).mono ?_
        rintro e w3 ⟨rfl, rfl⟩
        go_wp2_with fail
        go_region
        all_goals go_wp2_with fail
        all_goals
          refine bodyPost_ret (v := .tuple #[.agg #[.bool qa, .int .i64 qf, .int .i64 qt, .int .i64 (pNum z).1], .bool ((pNum z).2 && decide (0 < (pNum z).1))]) (by simp [results, Tryz.results88, go_sem, p0, p1, p2, p3, wl2, hok]) rfl ⟨by rw [hP.out]; rfl, ?_⟩
          exact ((below_set4 (b := w.heap.size + 1) hB3 (by omega) _ _ _ _).alloc (by simp; omega) _).drew
      · go_enter Tryz.func88, Tryz.ntmps88
        go_wp2_with fail
        refine (cut_any s _ _ (hg.below hB) hs).mono ?_
        simp only [ha, hz, hr]
        rintro e w1 ⟨rfl, hb1⟩
        obtain ⟨wl, ca, cb, cf⟩ := two_kept hb1
        have q0 := ca 0 _ rfl
        have q1 := ca 1 _ rfl
        have hB2 := hB.trans (hb1.mono (by simp; omega))
        have hg1 := hg.below hB2
        go_wp2_with fail
        refine (hR _ hg1).mono ?_
        rintro e w2 ⟨rfl, hb2⟩
        have wz := hb2.size
        have p0 := (hb2.cell (p := ⟨w.heap.size + 1, 0, none⟩) wl).trans (cb 0 _ rfl)
        have p1 := (hb2.cell (p := ⟨w.heap.size + 1, 1, none⟩) wl).trans (cb 1 _ rfl)
        have p2 := (hb2.cell (p := ⟨w.heap.size + 1, 2, none⟩) wl).trans (cb 2 _ rfl)
        have p3 := (hb2.cell (p := ⟨w.heap.size + 1, 3, none⟩) wl).trans (cb 3 _ rfl)
        have g0 := (hb2.frozen (p := ⟨w.heap.size + 1, 0, none⟩) wl).trans (cf 0)
        have g1 := (hb2.frozen (p := ⟨w.heap.size + 1, 1, none⟩) wl).trans (cf 1)
        have g2 := (hb2.frozen (p := ⟨w.heap.size + 1, 2, none⟩) wl).trans (cf 2)
        have g3 := (hb2.frozen (p := ⟨w.heap.size + 1, 3, none⟩) wl).trans (cf 3)
        have wl2 : w.heap.size + 1 < w2.heap.size := by omega
        have hB3 := hB2.trans (hb2.mono (by omega))
        clear ca cb cf q0 q1
        go_wp2_with fail
        refine (parseNumber_any z _).mono ?_
        rintro e w3 ⟨rfl, rfl⟩
        go_wp2_with fail
        go_region
        all_goals go_wp2_with fail
        all_goals
          refine bodyPost_ret (v := .tuple #[.agg #[.bool qa, .int .i64 qf, .int .i64 qt, .int .i64 (pNum z).1], .bool ((pNum z).2 && decide (0 < (pNum z).1))]) (by simp [results, Tryz.results88, go_sem, p0, p1, p2, p3, wl2, hok]) rfl ⟨by rw [hP.out]; rfl, ?_⟩
          exact ((below_set4 (b := w.heap.size + 1) hB3 (by omega) _ _ _ _).alloc (by simp; omega) _).drew
set_option maxRecDepth 100000 in
set_option maxHeartbeats 2000000 in
theorem parseNumbers1_any (s : ByteArray) (lo hi : Int) (b : Nat) (w : World) (hg : GlP w) (hs : s.size ≤ 100000) (b0 : w.cell? ⟨b, 0, none⟩ = some (.int .i64 lo)) (b1 : w.cell? ⟨b, 1, none⟩ = some (.int .i64 hi)) :
    Calls Tryz.prog 87 #[.string s, .pointer (some ⟨b, 0, none⟩)] w fun e w' => e = .returned (.tuple #[aggP (pPart s lo hi).1, .bool (pPart s lo hi).2]) ∧ Below w.heap.size w w' := by
  have hB : Below w.heap.size w (w.alloc (.cells #[.bool false, .int .i64 0, .int .i64 0, .int .i64 0] 80)) := (Below.refl _ _).alloc (Nat.le_refl _) _
  have bl := cell_lt b0
  simp only at bl
  obtain ⟨⟨⟨qa, qf, qt, qs⟩, qok⟩, hq⟩ : ∃ q, pPart s lo hi = q := ⟨_, rfl⟩
  have hR := fun w hg => parsePart_any s lo hi w hg hs
  simp only [hq, aggP] at hR ⊢
  go_enter Tryz.func87, Tryz.ntmps87
  go_wp2_with fail
  refine (hR _ (hg.below hB)).mono ?_
  rintro e w1 ⟨rfl, hb1⟩
  obtain ⟨wl, cb, cf⟩ := one_kept hb1
  have k0 := cb 0 _ rfl
  have k1 := cb 1 _ rfl
  have k2 := cb 2 _ rfl
  have k3 := cb 3 _ rfl
  have f0 := cf 0
  have f1 := cf 1
  have f2 := cf 2
  have f3 := cf 3
  have hB2 := hB.trans (hb1.mono (by simp))
  clear cb cf
  go_wp2_with fail
  refine bodyPost_ret (v := .tuple #[.agg #[.bool qa, .int .i64 qf, .int .i64 qt, .int .i64 qs], .bool qok]) (by simp [results, Tryz.results87, go_sem, k0, k1, k2, k3]) rfl ⟨rfl, ?_⟩
  exact below_set4 hB2 (by omega) _ _ _ _
end Go.Proofs.YtehlnhljpdjppaaGreatDoor
/- The contract of package calendar's splitUpTo and parseList. -/
namespace Go.Proofs.YtehlnhljpdjppaaGreatDoor
open Go.RowKit
def splitT (s : ByteArray) (sep : ByteArray) (most : Nat) : List ByteArray := Lib.splitB sep 0 (min (most + 1) (s.size + 1) - 1) s
set_option maxHeartbeats 1000000 in
theorem split_any (s sep : ByteArray) (most : Nat) (w : World) (hg : GlP w) (hs : s.size ≤ 100000) (h1 : 1 ≤ sep.size) (hm : most ≤ 1000) :
    Calls Tryz.prog 51 #[.string s, .string sep, .int .i64 most] w fun e w' => ∃ cap, e = .returned (.slice (some ⟨w.heap.size, 0, none⟩) (splitT s sep most).length cap) ∧ (splitT s sep most).length ≤ cap ∧ Below w.heap.size w w' ∧ ∀ j x, (splitT s sep most)[j]? = some x → w'.cell? ⟨w.heap.size, j, none⟩ = some (.string x) := by
  obtain ⟨m, hmx⟩ := hg.mx
  have hI := Tryz.strings_SplitN s sep (most + 1) m w (by omega) hmx h1 (by omega) (by omega)
  have hle : (splitT s sep most).length ≤ min (most + 1) (s.size + 1) := by
    have := Lib.splitB_length_le sep 0 (min (most + 1) (s.size + 1) - 1) s
    unfold splitT
    omega
  rw [show ((most + 1 : Nat) : Int) = (most : Int) + 1 by omega] at hI
  change Calls _ _ _ _ (fun e w' => e = .returned (.slice (some ⟨w.heap.size, 0, none⟩) (splitT s sep most).length (min (most + 1) (s.size + 1))) ∧ w' = w.alloc (.cells (Lib.cellsOf (splitT s sep most) (min (most + 1) (s.size + 1))) 9)) at hI
  obtain ⟨L, hL⟩ : ∃ L, splitT s sep most = L := ⟨_, rfl⟩
  obtain ⟨N, hN⟩ : ∃ N, min (most + 1) (s.size + 1) = N := ⟨_, rfl⟩
  rw [hL, hN] at hI hle
  rw [hL]
  clear hL hN
  go_enter Tryz.func51, Tryz.ntmps51
  go_wp2_with fail
  refine hI.mono ?_
  rintro e w1 ⟨rfl, rfl⟩
  go_wp2_with fail
  go_ret
  refine ⟨_, rfl, hle, (Below.refl _ _).alloc (Nat.le_refl _) _, fun j x h => ?_⟩
  refine cell_at rfl ?_
  unfold Lib.cellsOf
  have hj := (List.getElem?_eq_some_iff.1 h).1
  rw [List.getElem?_toArray, List.getElem?_append_left (by simpa using hj), List.getElem?_map, h]
  rfl
theorem splitB_le (sep : ByteArray) : ∀ (k : Nat) (s : ByteArray), ∀ x ∈ Lib.splitB sep 0 k s, x.size ≤ s.size
  | 0, s, x, hx => by
    rw [Lib.splitB_zero] at hx
    simp at hx; subst hx; exact Nat.le_refl _
  | k + 1, s, x, hx => by
    unfold Lib.splitB at hx
    split at hx
    · simp at hx; subst hx; exact Nat.le_refl _
    · rcases List.mem_cons.1 hx with rfl | h
      · simp [ByteArray.size_extract]; omega
      · have := splitB_le sep k _ x h
        simp [ByteArray.size_extract] at this
        omega
/-- A list of texts, each told by f: all of them, or none. -/
def pL (f : ByteArray → Part × Bool) : List ByteArray → Option (List Part)
  | [] => some []
  | t :: l => if (f t).2 = true then (pL f l).map ((f t).1 :: ·) else none
theorem pL_snoc (f : ByteArray → Part × Bool) : ∀ (l : List ByteArray) (t : ByteArray) (ps : List Part), pL f l = some ps → (f t).2 = true → pL f (l ++ [t]) = some (ps ++ [(f t).1])
  | [], t, ps, h, ht => by cases h; simp [pL, ht]
  | a :: l, t, ps, h, ht => by
    simp only [List.cons_append, pL] at h ⊢
    split at h
    · rename_i ha
      rw [if_pos ha]
      cases hl : pL f l with
      | none => rw [hl] at h; cases h
      | some qs =>
        rw [hl] at h; cases h
        rw [pL_snoc f l t qs hl ht]; rfl
    · cases h
theorem pL_no (f : ByteArray → Part × Bool) : ∀ (l r : List ByteArray) (t : ByteArray), (f t).2 = false → pL f (l ++ t :: r) = none
  | [], r, t, ht => by simp [pL, ht]
  | a :: l, r, t, ht => by
    simp only [List.cons_append, pL]
    split
    · rw [pL_no f l r t ht]; rfl
    · rfl
def cellsP (ps : List Part) : List Value := ps.flatMap fun q => [.bool q.1, .int .i64 q.2.1, .int .i64 q.2.2.1, .int .i64 q.2.2.2]
theorem cellsP_snoc (ps : List Part) (q : Part) : cellsP (ps ++ [q]) = cellsP ps ++ [.bool q.1, .int .i64 q.2.1, .int .i64 q.2.2.1, .int .i64 q.2.2.2] := by simp [cellsP]
theorem cellsP_len (ps : List Part) : (cellsP ps).length = ps.length * 4 := by
  induction ps with
  | nil => rfl
  | cons a r ih => simp [cellsP] at ih ⊢; omega
theorem cellsP_at : ∀ (ps : List Part) (i : Nat) (q : Part), ps[i]? = some q → (cellsP ps)[i * 4]? = some (.bool q.1) ∧ (cellsP ps)[i * 4 + 1]? = some (.int .i64 q.2.1) ∧ (cellsP ps)[i * 4 + 2]? = some (.int .i64 q.2.2.1) ∧ (cellsP ps)[i * 4 + 3]? = some (.int .i64 q.2.2.2)
  | [], i, q, h => by simp at h
  | a :: r, 0, q, h => by simp at h; subst h; simp [cellsP]
  | a :: r, i + 1, q, h => by
    have := cellsP_at r i q (by simpa using h)
    have e : cellsP (a :: r) = [.bool a.1, .int .i64 a.2.1, .int .i64 a.2.2.1, .int .i64 a.2.2.2] ++ cellsP r := by simp [cellsP]
    rw [e]
    rw [List.getElem?_append_right (by simp; omega), List.getElem?_append_right (by simp; omega), List.getElem?_append_right (by simp; omega), List.getElem?_append_right (by simp; omega)]
    simp only [List.length_cons, List.length_nil]
    rw [show (i + 1) * 4 - (0 + 1 + 1 + 1 + 1) = i * 4 by omega, show (i + 1) * 4 + 1 - (0 + 1 + 1 + 1 + 1) = i * 4 + 1 by omega, show (i + 1) * 4 + 2 - (0 + 1 + 1 + 1 + 1) = i * 4 + 2 by omega, show (i + 1) * 4 + 3 - (0 + 1 + 1 + 1 + 1) = i * 4 + 3 by omega]
    exact this
end Go.Proofs.YtehlnhljpdjppaaGreatDoor
/- Contracts of package calendar's parseList. -/
namespace Go.Proofs.YtehlnhljpdjppaaGreatDoor
open Go.RowKit
theorem info84 : (Tryz.prog.info? 80).map (fun i => (i.zero, i.size, i.bytes)) = some (some (.agg #[.bool false, .int .i64 0, .int .i64 0, .int .i64 0]), 4, 32) := by kernel_rfl
theorem grown_of_below {w w' : World} (h : Below w.heap.size w w') : w.grownBy w' none := ⟨h.os, h.tape, h.output, h.size, fun k hk _ => h.block k hk⟩
theorem four_new (w : World) (a b c d : Value) (t : TypeId) : ∀ j u, [a, b, c, d][j]? = some u → (w.alloc (.cells #[a, b, c, d] t)).cell? ((⟨w.heap.size, 0, none⟩ : Addr).add j) = some u := by
  intro j u hj
  match j, hj with
  | 0, hj => simp at hj; subst hj; simp [Addr.add]
  | 1, hj => simp at hj; subst hj; simp [Addr.add]
  | 2, hj => simp at hj; subst hj; simp [Addr.add]
  | 3, hj => simp at hj; subst hj; simp [Addr.add]
set_option maxRecDepth 100000 in
set_option maxHeartbeats 4000000 in
theorem listW_any (s : ByteArray) (w : World) (hg : GlP w) (hs : s.size ≤ 100000) :
    Calls Tryz.prog 52 #[.string s, .func (.func 53) #[] #[]] w fun e w' => ∃ sl : Sl, e = .returned (.tuple #[slv sl, .bool (pL (pWds) (splitT s (str1 44) 12)).isSome]) ∧ Below w.heap.size w w' ∧ Pin (fun k => k < w.heap.size) w' (slv sl) ((pL (pWds) (splitT s (str1 44) 12)).getD []) := by
  obtain ⟨i0, hinf, hz0, hz1, hz2⟩ := info_parts info84
  have hSp := split_any s (str1 44) 12 w hg hs (by decide) (by decide)
  have hsz : ∀ x ∈ splitT s (str1 44) 12, x.size ≤ 100000 := fun x hx => Nat.le_trans (splitB_le _ _ _ x hx) hs
  have hln : (splitT s (str1 44) 12).length ≤ 13 := by
    have := Lib.splitB_length_le (str1 44) 0 (min (12 + 1) (s.size + 1) - 1) s
    unfold splitT
    omega
  obtain ⟨L, hL⟩ : ∃ L, splitT s (str1 44) 12 = L := ⟨_, rfl⟩
  rw [hL] at hSp hsz hln
  rw [hL]
  clear hL
  go_enter Tryz.func52, Tryz.ntmps52
  go_wp2_with fail
  refine hSp.mono ?_
  rintro e w1 ⟨cap, rfl, hcap, hb1, hcells⟩
  have hw1 := hb1.size
  have hg1 := hg.below hb1
  obtain ⟨wm, hmk, hom, hgm⟩ := run_make_own (P := Tryz.prog) w1 w1.heap.size 22 80 i0 _ 4 Tryz.underlying22 hinf hz0 hz1 .i64 .i64 12 (by rw [hz2]; decide) (by unfold maxLen; decide) (Nat.le_refl _)
  have hmk' : (Instr.makeSlice 22 (.int .i64 0) (.int .i64 12)).run Tryz.prog w1 = .ok (.slice (some ⟨w1.heap.size, 0, none⟩) 0 12) wm := hmk
  clear hmk
  go_wp2_with fail
  have hbm : Below w1.heap.size w1 wm := ⟨hgm.os, hgm.tape, hgm.output, hgm.size, fun k hk => hgm.block k hk (by simp)⟩
  have hI : Hid (∀ x ∈ L, x.size ≤ 100000) := hsz
  clear hmk' hSp hsz
  go_loopw [7, 17] (fun v i wr => ∃ (k g cp : Nat) (ps : List Part), k ≤ L.length ∧ i = .int .i64 k ∧ v = .slice (some ⟨g, 0, none⟩) k cp ∧ ps.length = k ∧ Hid (pL (pWds) (L.take k) = some ps) ∧ wr.ownsRow w1.heap.size 80 4 (.slice (some ⟨g, 0, none⟩) k cp) k (cellsP ps) ∧ Below w1.heap.size w1 wr) (fun _ i _ => L.length - (intOf i).toNat)
  case atStart => exact ⟨0, w1.heap.size, 12, [], by omega, rfl, rfl, rfl, rfl, hom, hbm⟩
  case round =>
    obtain ⟨k, g, cp, ps, hk, rfl, rfl, hpl, hps, hown, hb⟩ := hrel
    have hbw : Below w.heap.size w wr := hb1.trans (hb.mono hw1)
    have hgr := hg.below hbw
    by_cases hkl : k < L.length
    · obtain ⟨x, hx⟩ : ∃ x, L[k]? = some x := ⟨_, List.getElem?_eq_getElem hkl⟩
      have hxs := hI.out x (List.mem_of_getElem? hx)
      have c0 := hcells k x hx
      have wl : w.heap.size < w1.heap.size := cell_lt c0
      have c1 : wr.cell? ⟨w.heap.size, k, none⟩ = some (.string x) := (hb.cell (p := ⟨w.heap.size, k, none⟩) wl).trans c0
      have htk : Hid (L.take (k + 1) = L.take k ++ [x]) := by
        show _ = _
        rw [List.take_add_one, hx]; rfl
      have hsp : Hid (L = L.take k ++ x :: L.drop (k + 1)) := by
        show _ = _
        have := List.getElem?_eq_some_iff.1 hx
        obtain ⟨h1, h2⟩ := this
        rw [← h2, ← List.drop_eq_getElem_cons h1, List.take_append_drop]
      go_wp2_with fail
      refine (parseWeekdays_any x _ hgr hxs).mono ?_
      obtain ⟨⟨⟨qa, qf, qt, qs⟩, qok⟩, hq⟩ : ∃ q, pWds x = q := ⟨_, rfl⟩
      simp only [hq, aggP]
      rintro e w2 ⟨rfl, hb2⟩
      have hb3 : Below w1.heap.size w1 w2 := hb.trans (hb2.mono hb.size)
      have hown2 := hown.kept (grown_of_below hb2) (.inr (by simp [Value.ownBlock]))
      have hz3 := hb3.size
      cases qok
      · have hno : Hid (pL (pWds) L = none) := by
          show _ = _
          rw [hsp.out]
          exact pL_no _ _ _ _ (by show (pWds x).2 = false; rw [hq])
        go_wp2_with fail
        go_ret2
        refine ⟨(none, 0, 0), by rw [hno.out]; rfl, (hb1.trans (hb3.mono hw1)).alloc (by omega) _, ?_⟩
        rw [hno.out]
        exact ⟨none, 0, rfl, by simp, fun i q h => by simp at h⟩
      · have hyes : Hid (pL (pWds) (L.take (k + 1)) = some (ps ++ [(qa, qf, qt, qs)])) := by
          show _ = _
          rw [htk.out]
          have := pL_snoc (pWds) (L.take k) x ps hps.out (by show (pWds x).2 = true; rw [hq])
          rw [this]
          show some (ps ++ [(pWds x).1]) = _
          rw [hq]
        have hr0 := hown2.alloc (.cells #[.bool qa, .int .i64 qf, .int .i64 qt, .int .i64 qs] 80)
        have hr1 := hr0.alloc (.cells #[.bool qa, .int .i64 qf, .int .i64 qt, .int .i64 qs] 80)
        go_wp2_with (at_builtin; refine wpList_append_own_at _ rfl _ _ 22 rfl w1.heap.size 80 i0 (.agg #[.bool false, .int .i64 0, .int .i64 0, .int .i64 0]) 4 32 Tryz.underlying22 hinf hz0 hz1 hz2 rfl (by decide) _ _ _ rfl hr1 ⟨w2.heap.size + 1, 0, none⟩ 1 1 [.bool qa, .int .i64 qf, .int .i64 qt, .int .i64 qs] rfl rfl (by simpa using four_new (w2.alloc (.cells #[.bool qa, .int .i64 qf, .int .i64 qt, .int .i64 qs] 80)) (.bool qa) (.int .i64 qf) (.int .i64 qt) (.int .i64 qs) 80) (fun x hx => by simp at hx; rcases hx with rfl | rfl | rfl | rfl <;> rfl) (by unfold maxLen; omega) (by omega) (by simp; omega) ?_; intro v' w3 hown' hgrow _ _; obtain ⟨g', cap', rfl⟩ := ownsRow_succ hown')
        have hb4 : Below w1.heap.size w1 w3 := ((hb3.alloc (by omega) _).alloc (by simp; omega) _).grown hgrow (by simp; omega) (fun k e => (hr1.lt k e).1)
        exact ⟨⟨k + 1, g', cap', ps ++ [(qa, qf, qt, qs)], by omega, by go_num, rfl, by simp [hpl], hyes.out, by rw [cellsP_snoc]; exact hown', hb4⟩, by simp [intOf]; omega⟩
    · obtain rfl : k = L.length := by omega
      have hfin : Hid (pL (pWds) L = some ps) := by
        show _ = _
        have := hps.out
        rwa [List.take_length] at this
      go_wp2_with fail
      go_ret2
      refine ⟨(some ⟨g, 0, none⟩, L.length, cp), by rw [hfin.out]; rfl, hbw, ?_⟩
      rw [hfin.out]
      refine ⟨some ⟨g, 0, none⟩, cp, by rw [← hpl]; rfl, by simp only [Option.getD_some]; omega, fun i q h => ⟨g, 0, rfl, ?_, ?_⟩⟩
      · have := (hown.lt g rfl).1
        omega
      · have hlt : i < ps.length := (List.getElem?_eq_some_iff.1 h).1
        obtain ⟨d0, d1, d2, d3⟩ := cellsP_at ps i q h
        rw [Nat.zero_add]
        exact ⟨(hown.cellAt _ (by omega)).trans d0, (hown.cellAt _ (by omega)).trans d1, (hown.cellAt _ (by omega)).trans d2, (hown.cellAt _ (by omega)).trans d3⟩
set_option maxRecDepth 100000 in
set_option maxHeartbeats 4000000 in
theorem listN_any (s : ByteArray) (lo hi : Int) (b : Nat) (w : World) (hg : GlP w) (hs : s.size ≤ 100000) (b0 : w.cell? ⟨b, 0, none⟩ = some (.int .i64 lo)) (b1 : w.cell? ⟨b, 1, none⟩ = some (.int .i64 hi)) :
    Calls Tryz.prog 52 #[.string s, .func (.func 87) #[] #[.pointer (some ⟨b, 0, none⟩)]] w fun e w' => ∃ sl : Sl, e = .returned (.tuple #[slv sl, .bool (pL (fun t => pPart t lo hi) (splitT s (str1 44) 12)).isSome]) ∧ Below w.heap.size w w' ∧ Pin (fun k => k < w.heap.size) w' (slv sl) ((pL (fun t => pPart t lo hi) (splitT s (str1 44) 12)).getD []) := by
  obtain ⟨i0, hinf, hz0, hz1, hz2⟩ := info_parts info84
  have hSp := split_any s (str1 44) 12 w hg hs (by decide) (by decide)
  have hsz : ∀ x ∈ splitT s (str1 44) 12, x.size ≤ 100000 := fun x hx => Nat.le_trans (splitB_le _ _ _ x hx) hs
  have hln : (splitT s (str1 44) 12).length ≤ 13 := by
    have := Lib.splitB_length_le (str1 44) 0 (min (12 + 1) (s.size + 1) - 1) s
    unfold splitT
    omega
  obtain ⟨L, hL⟩ : ∃ L, splitT s (str1 44) 12 = L := ⟨_, rfl⟩
  rw [hL] at hSp hsz hln
  rw [hL]
  clear hL
  go_enter Tryz.func52, Tryz.ntmps52
  go_wp2_with fail
  refine hSp.mono ?_
  rintro e w1 ⟨cap, rfl, hcap, hb1, hcells⟩
  have hw1 := hb1.size
  have hg1 := hg.below hb1
  obtain ⟨wm, hmk, hom, hgm⟩ := run_make_own (P := Tryz.prog) w1 w1.heap.size 22 80 i0 _ 4 Tryz.underlying22 hinf hz0 hz1 .i64 .i64 12 (by rw [hz2]; decide) (by unfold maxLen; decide) (Nat.le_refl _)
  have hmk' : (Instr.makeSlice 22 (.int .i64 0) (.int .i64 12)).run Tryz.prog w1 = .ok (.slice (some ⟨w1.heap.size, 0, none⟩) 0 12) wm := hmk
  clear hmk
  go_wp2_with fail
  have hbm : Below w1.heap.size w1 wm := ⟨hgm.os, hgm.tape, hgm.output, hgm.size, fun k hk => hgm.block k hk (by simp)⟩
  have hI : Hid (∀ x ∈ L, x.size ≤ 100000) := hsz
  clear hmk' hSp hsz
  go_loopw [7, 17] (fun v i wr => ∃ (k g cp : Nat) (ps : List Part), k ≤ L.length ∧ i = .int .i64 k ∧ v = .slice (some ⟨g, 0, none⟩) k cp ∧ ps.length = k ∧ Hid (pL (fun t => pPart t lo hi) (L.take k) = some ps) ∧ wr.ownsRow w1.heap.size 80 4 (.slice (some ⟨g, 0, none⟩) k cp) k (cellsP ps) ∧ Below w1.heap.size w1 wr) (fun _ i _ => L.length - (intOf i).toNat)
  case atStart => exact ⟨0, w1.heap.size, 12, [], by omega, rfl, rfl, rfl, rfl, hom, hbm⟩
  case round =>
    obtain ⟨k, g, cp, ps, hk, rfl, rfl, hpl, hps, hown, hb⟩ := hrel
    have hbw : Below w.heap.size w wr := hb1.trans (hb.mono hw1)
    have hgr := hg.below hbw
    by_cases hkl : k < L.length
    · obtain ⟨x, hx⟩ : ∃ x, L[k]? = some x := ⟨_, List.getElem?_eq_getElem hkl⟩
      have hxs := hI.out x (List.mem_of_getElem? hx)
      have c0 := hcells k x hx
      have wl : w.heap.size < w1.heap.size := cell_lt c0
      have c1 : wr.cell? ⟨w.heap.size, k, none⟩ = some (.string x) := (hb.cell (p := ⟨w.heap.size, k, none⟩) wl).trans c0
      have htk : Hid (L.take (k + 1) = L.take k ++ [x]) := by
        show _ = _
        rw [List.take_add_one, hx]; rfl
      have hsp : Hid (L = L.take k ++ x :: L.drop (k + 1)) := by
        show _ = _
        have := List.getElem?_eq_some_iff.1 hx
        obtain ⟨h1, h2⟩ := this
        rw [← h2, ← List.drop_eq_getElem_cons h1, List.take_append_drop]
      go_wp2_with fail
      refine (parseNumbers1_any x lo hi b _ hgr hxs ((hbw.cell (p := ⟨b, 0, none⟩) (cell_lt b0)).trans b0) ((hbw.cell (p := ⟨b, 1, none⟩) (cell_lt b1)).trans b1)).mono ?_
      obtain ⟨⟨⟨qa, qf, qt, qs⟩, qok⟩, hq⟩ : ∃ q, pPart x lo hi = q := ⟨_, rfl⟩
      simp only [hq, aggP]
      rintro e w2 ⟨rfl, hb2⟩
      have hb3 : Below w1.heap.size w1 w2 := hb.trans (hb2.mono hb.size)
      have hown2 := hown.kept (grown_of_below hb2) (.inr (by simp [Value.ownBlock]))
      have hz3 := hb3.size
      cases qok
      · have hno : Hid (pL (fun t => pPart t lo hi) L = none) := by
          show _ = _
          rw [hsp.out]
          exact pL_no _ _ _ _ (by show (pPart x lo hi).2 = false; rw [hq])
        go_wp2_with fail
        go_ret2
        refine ⟨(none, 0, 0), by rw [hno.out]; rfl, (hb1.trans (hb3.mono hw1)).alloc (by omega) _, ?_⟩
        rw [hno.out]
        exact ⟨none, 0, rfl, by simp, fun i q h => by simp at h⟩
      · have hyes : Hid (pL (fun t => pPart t lo hi) (L.take (k + 1)) = some (ps ++ [(qa, qf, qt, qs)])) := by
          show _ = _
          rw [htk.out]
          have := pL_snoc (fun t => pPart t lo hi) (L.take k) x ps hps.out (by show (pPart x lo hi).2 = true; rw [hq])
          rw [this]
          show some (ps ++ [(pPart x lo hi).1]) = _
          rw [hq]
        have hr0 := hown2.alloc (.cells #[.bool qa, .int .i64 qf, .int .i64 qt, .int .i64 qs] 80)
        have hr1 := hr0.alloc (.cells #[.bool qa, .int .i64 qf, .int .i64 qt, .int .i64 qs] 80)
        go_wp2_with (at_builtin; refine wpList_append_own_at _ rfl _ _ 22 rfl w1.heap.size 80 i0 (.agg #[.bool false, .int .i64 0, .int .i64 0, .int .i64 0]) 4 32 Tryz.underlying22 hinf hz0 hz1 hz2 rfl (by decide) _ _ _ rfl hr1 ⟨w2.heap.size + 1, 0, none⟩ 1 1 [.bool qa, .int .i64 qf, .int .i64 qt, .int .i64 qs] rfl rfl (by simpa using four_new (w2.alloc (.cells #[.bool qa, .int .i64 qf, .int .i64 qt, .int .i64 qs] 80)) (.bool qa) (.int .i64 qf) (.int .i64 qt) (.int .i64 qs) 80) (fun x hx => by simp at hx; rcases hx with rfl | rfl | rfl | rfl <;> rfl) (by unfold maxLen; omega) (by omega) (by simp; omega) ?_; intro v' w3 hown' hgrow _ _; obtain ⟨g', cap', rfl⟩ := ownsRow_succ hown')
        have hb4 : Below w1.heap.size w1 w3 := ((hb3.alloc (by omega) _).alloc (by simp; omega) _).grown hgrow (by simp; omega) (fun k e => (hr1.lt k e).1)
        exact ⟨⟨k + 1, g', cap', ps ++ [(qa, qf, qt, qs)], by omega, by go_num, rfl, by simp [hpl], hyes.out, by rw [cellsP_snoc]; exact hown', hb4⟩, by simp [intOf]; omega⟩
    · obtain rfl : k = L.length := by omega
      have hfin : Hid (pL (fun t => pPart t lo hi) L = some ps) := by
        show _ = _
        have := hps.out
        rwa [List.take_length] at this
      go_wp2_with fail
      go_ret2
      refine ⟨(some ⟨g, 0, none⟩, L.length, cp), by rw [hfin.out]; rfl, hbw, ?_⟩
      rw [hfin.out]
      refine ⟨some ⟨g, 0, none⟩, cp, by rw [← hpl]; rfl, by simp only [Option.getD_some]; omega, fun i q h => ⟨g, 0, rfl, ?_, ?_⟩⟩
      · have := (hown.lt g rfl).1
        omega
      · have hlt : i < ps.length := (List.getElem?_eq_some_iff.1 h).1
        obtain ⟨d0, d1, d2, d3⟩ := cellsP_at ps i q h
        rw [Nat.zero_add]
        exact ⟨(hown.cellAt _ (by omega)).trans d0, (hown.cellAt _ (by omega)).trans d1, (hown.cellAt _ (by omega)).trans d2, (hown.cellAt _ (by omega)).trans d3⟩
end Go.Proofs.YtehlnhljpdjppaaGreatDoor
/- Contracts of package calendar's parseNumbers, parseDate, parseClock. -/
namespace Go.Proofs.YtehlnhljpdjppaaGreatDoor
open Go.RowKit
def pNs (s : ByteArray) (lo hi : Int) : Option (List Part) := if (s.toList == [42]) = true then some [(true, 0, 0, 0)] else pL (fun t => pPart t lo hi) (splitT s (str1 44) 12)
/-- Of what lay, nothing has turned but the cell o of block b, which now holds v. -/
structure Upd (b o : Nat) (v : Value) (w w' : World) : Prop where
  os : w'.os = w.os
  tape : w'.tape = w.tape
  output : w'.output = w.output
  size : w.heap.size ≤ w'.heap.size
  block : ∀ k, k < w.heap.size → k ≠ b → w'.heap[k]? = w.heap[k]?
  cell : ∀ j, j ≠ o → w'.cell? ⟨b, j, none⟩ = w.cell? ⟨b, j, none⟩
  froz : ∀ j, w'.frozen? ⟨b, j, none⟩ = w.frozen? ⟨b, j, none⟩
  here : w'.cell? ⟨b, o, none⟩ = some v
theorem upd_of {b o : Nat} {v u : Value} {w w1 : World} (hb : Below w.heap.size w w1) (hl : b < w.heap.size) (h : w.cell? ⟨b, o, none⟩ = some u) : Upd b o v w (w1.setCell ⟨b, o, none⟩ v) := by
  have hc : w1.cell? ⟨b, o, none⟩ = some u := (hb.cell (p := ⟨b, o, none⟩) hl).trans h
  refine ⟨hb.os, hb.tape, hb.output, by simpa using hb.size, fun k hk hne => ?_, fun j hj => ?_, fun j => ?_, ?_⟩
  · rw [← hb.block k hk]
    exact heap_setCell_other _ _ _ _ hne
  · rw [World.cell?_setCell_other _ _ _ _ (fun e => hj (by cases e; rfl))]
    exact hb.cell (p := ⟨b, j, none⟩) hl
  · rw [World.frozen?_setCell]
    exact hb.frozen (p := ⟨b, j, none⟩) hl
  · exact World.cell?_setCell_same' _ _ _ (by rw [hc]; rfl)
theorem pin_one {w : World} {n : Nat} (hn : n ≤ w.heap.size) (t : TypeId) : Pin (fun k => k < n) (w.alloc (.cells #[.bool true, .int .i64 0, .int .i64 0, .int .i64 0] t)) (slv (some ⟨w.heap.size, 0, none⟩, 1, 1)) [(true, 0, 0, 0)] := by
  refine ⟨some ⟨w.heap.size, 0, none⟩, 1, rfl, by simp, fun i q h => ?_⟩
  cases i with
  | zero =>
    simp at h; subst h
    exact ⟨w.heap.size, 0, rfl, by omega, cell_at rfl rfl, cell_at rfl rfl, cell_at rfl rfl, cell_at rfl rfl⟩
  | succ i => simp at h
theorem pin_set {E : Nat → Prop} {W : World} {v u : Value} {ps : List Part} {b o : Nat} (h : Pin E W v ps) (hb : E b) : Pin E (W.setCell ⟨b, o, none⟩ u) v ps := by
  obtain ⟨p, cap, rfl, hl, hc⟩ := h
  refine ⟨p, cap, rfl, hl, fun i q hq => ?_⟩
  obtain ⟨b', o', rfl, hE, c0, c1, c2, c3⟩ := hc i q hq
  have hne : b' ≠ b := fun e => hE (e ▸ hb)
  refine ⟨b', o', rfl, hE, ?_, ?_, ?_, ?_⟩
  all_goals (rw [World.cell?_setCell_other _ _ _ _ (fun e => hne (by cases e; rfl))]; assumption)
set_option maxRecDepth 100000 in
set_option maxHeartbeats 2000000 in
theorem parseNumbers_any (s : ByteArray) (lo hi : Int) (b o : Nat) (u : Value) (w : World) (hg : GlP w) (hs : s.size ≤ 100000) (hc : w.cell? ⟨b, o, none⟩ = some u) (hf : w.frozen? ⟨b, o, none⟩ = false) :
    Calls Tryz.prog 76 #[.pointer (some ⟨b, o, none⟩), .string s, .agg #[.int .i64 lo, .int .i64 hi]] w fun e w' => e = .returned (.bool (pNs s lo hi).isSome) ∧ ∃ sl : Sl, Upd b o (slv sl) w w' ∧ Pin (fun k => k < w.heap.size) w' (slv sl) ((pNs s lo hi).getD []) := by
  have bl : b < w.heap.size := cell_lt hc
  have hB : Below w.heap.size w (w.alloc (.cells #[.int .i64 lo, .int .i64 hi] 66)) := (Below.refl _ _).alloc (Nat.le_refl _) _
  cases hstar : (s.toList == [42])
  · have hP : Hid (pNs s lo hi = pL (fun t => pPart t lo hi) (splitT s (str1 44) 12)) := by show _ = _; unfold pNs; rw [hstar]; rfl
    have hLs := listN_any s lo hi w.heap.size _ (hg.below hB) hs (cell_at rfl rfl) (cell_at rfl rfl)
    rw [← hP.out] at hLs
    go_enter Tryz.func76, Tryz.ntmps76
    go_wp2_with fail
    refine hLs.mono ?_
    rintro e w1 ⟨sl, rfl, hb1, hpin⟩
    have hB2 := hB.trans (hb1.mono (by simp))
    have c1 : w1.cell? ⟨b, o, none⟩ = some u := (hB2.cell (p := ⟨b, o, none⟩) bl).trans hc
    have f1 : w1.frozen? ⟨b, o, none⟩ = false := (hB2.frozen (p := ⟨b, o, none⟩) bl).trans hf
    go_wp2_with fail
    go_ret
    refine ⟨rfl, sl, upd_of hB2 bl hc, ?_⟩
    obtain ⟨p, cap, hv, hl, hcc⟩ := pin_set (u := slv sl) (o := o) (b := b) hpin (by simp; omega)
    exact ⟨p, cap, hv, hl, fun i q hq => by obtain ⟨b', o', e, hE, r⟩ := hcc i q hq; exact ⟨b', o', e, fun h => hE (by simp; omega), r⟩⟩
  · have hP : Hid (pNs s lo hi = some [(true, 0, 0, 0)]) := by show _ = _; unfold pNs; rw [hstar]; rfl
    have bl1 : b < w.heap.size + 1 := by omega
    go_enter Tryz.func76, Tryz.ntmps76
    go_wp2_with fail
    go_ret
    refine ⟨by rw [hP.out]; rfl, (some ⟨w.heap.size + 1, 0, none⟩, 1, 1), ?_, ?_⟩
    · have := upd_of (o := o) (v := slv (some ⟨w.heap.size + 1, 0, none⟩, 1, 1)) (hB.alloc (by simp) (.cells #[.bool true, .int .i64 0, .int .i64 0, .int .i64 0] 80)) bl hc
      rw [World.setCell_alloc_past _ _ _ _ (by simp; omega), World.setCell_alloc_past _ _ _ _ bl] at this
      exact this
    · rw [hP.out]
      have := pin_set (o := o) (u := slv (some ⟨w.heap.size + 1, 0, none⟩, 1, 1)) (pin_one (w := w.alloc (.cells #[.int .i64 lo, .int .i64 hi] 66)) (n := w.heap.size) (by simp) 80) bl
      rw [World.setCell_alloc_past _ _ _ _ (by simp; omega), World.setCell_alloc_past _ _ _ _ bl] at this
      simpa using this
theorem Upd.glp {b o : Nat} {v : Value} {w w' : World} (h : Upd b o v w w') (hg : GlP w) (hb : 2 < b) : GlP w' := by
  have hc : ∀ (k j : Nat) (u : Value), k < 3 → w.cell? ⟨k, j, none⟩ = some u → w'.cell? ⟨k, j, none⟩ = some u := fun k j u hk hu => by
    rw [← hu]
    exact World.cell?_of_block (a := ⟨k, j, none⟩) (h.block k (cell_lt hu) (by omega))
  obtain ⟨m, hm⟩ := hg.mx
  exact ⟨⟨fun j v hv => hc 0 j _ (by omega) (hg.gl.lim j v hv), fun j v hv => hc 1 j _ (by omega) (hg.gl.len j v hv), fun h => h, fun h => h⟩, ⟨m, hc 2 0 _ (by omega) hm⟩⟩
theorem Upd.old {b o : Nat} {v : Value} {w w' : World} (h : Upd b o v w w') {k j : Nat} {u : Value} (hk : k ≠ b) (hu : w.cell? ⟨k, j, none⟩ = some u) : w'.cell? ⟨k, j, none⟩ = some u := by
  rw [← hu]
  exact World.cell?_of_block (a := ⟨k, j, none⟩) (h.block k (cell_lt hu) hk)
theorem Upd.pin {b o : Nat} {v : Value} {w w' : World} (h : Upd b o v w w') {E : Nat → Prop} {u : Value} {ps : List Part} (hp : Pin E w u ps) (hb : E b) : Pin E w' u ps := by
  obtain ⟨p, cap, rfl, hl, hc⟩ := hp
  refine ⟨p, cap, rfl, hl, fun i q hq => ?_⟩
  obtain ⟨b', o', rfl, hE, c0, c1, c2, c3⟩ := hc i q hq
  have hne : b' ≠ b := fun e => hE (e ▸ hb)
  exact ⟨b', o', rfl, hE, h.old hne c0, h.old hne c1, h.old hne c2, h.old hne c3⟩
end Go.Proofs.YtehlnhljpdjppaaGreatDoor
/- The contract of package calendar's spellOut. -/
namespace Go.Proofs.YtehlnhljpdjppaaGreatDoor
open Go.RowKit
def spell (s : ByteArray) : ByteArray :=
  if (s.toList == [109, 105, 110, 117, 116, 101, 108, 121]) = true then ⟨#[42, 45, 42, 45, 42, 32, 42, 58, 42, 58, 48, 48]⟩
  else if (s.toList == [104, 111, 117, 114, 108, 121]) = true then ⟨#[42, 45, 42, 45, 42, 32, 42, 58, 48, 48, 58, 48, 48]⟩
  else if (s.toList == [100, 97, 105, 108, 121]) = true then ⟨#[42, 45, 42, 45, 42, 32, 48, 48, 58, 48, 48, 58, 48, 48]⟩
  else if (s.toList == [119, 101, 101, 107, 108, 121]) = true then ⟨#[77, 111, 110, 32, 42, 45, 42, 45, 42, 32, 48, 48, 58, 48, 48, 58, 48, 48]⟩
  else if (s.toList == [109, 111, 110, 116, 104, 108, 121]) = true then ⟨#[42, 45, 42, 45, 48, 49, 32, 48, 48, 58, 48, 48, 58, 48, 48]⟩
  else if (s.toList == [121, 101, 97, 114, 108, 121]) = true then ⟨#[42, 45, 48, 49, 45, 48, 49, 32, 48, 48, 58, 48, 48, 58, 48, 48]⟩
  else s
theorem ret_str {a b : ByteArray} (h : a = b) : Ending.returned (.string a) = .returned (.string b) := by rw [h]
set_option maxHeartbeats 2000000 in
theorem spell_any (s : ByteArray) (w : World) :
    Calls Tryz.prog 30 #[.string s] w fun e w' => e = .returned (.string (spell s)) ∧ w' = w := by
  cases h1 : (s.toList == [109, 105, 110, 117, 116, 101, 108, 121])
  · cases h2 : (s.toList == [104, 111, 117, 114, 108, 121])
    · cases h3 : (s.toList == [100, 97, 105, 108, 121])
      · cases h4 : (s.toList == [119, 101, 101, 107, 108, 121])
        · cases h5 : (s.toList == [109, 111, 110, 116, 104, 108, 121])
          · cases h6 : (s.toList == [121, 101, 97, 114, 108, 121])
            all_goals
              go_enter Tryz.func30, Tryz.ntmps30
              go_wp2
              go_ret
              exact ⟨ret_str (by unfold spell; rw [h1, h2, h3, h4, h5, h6]; rfl), rfl⟩
          · go_enter Tryz.func30, Tryz.ntmps30
            go_wp2
            go_ret
            exact ⟨ret_str (by unfold spell; rw [h1, h2, h3, h4, h5]; rfl), rfl⟩
        · go_enter Tryz.func30, Tryz.ntmps30
          go_wp2
          go_ret
          exact ⟨ret_str (by unfold spell; rw [h1, h2, h3, h4]; rfl), rfl⟩
      · go_enter Tryz.func30, Tryz.ntmps30
        go_wp2
        go_ret
        exact ⟨ret_str (by unfold spell; rw [h1, h2, h3]; rfl), rfl⟩
    · go_enter Tryz.func30, Tryz.ntmps30
      go_wp2
      go_ret
      exact ⟨ret_str (by unfold spell; rw [h1, h2]; rfl), rfl⟩
  · go_enter Tryz.func30, Tryz.ntmps30
    go_wp2
    go_ret
    exact ⟨ret_str (by unfold spell; rw [h1]; rfl), rfl⟩
end Go.Proofs.YtehlnhljpdjppaaGreatDoor
