/- Contracts of package calendar's parseNumber, parseRow, parsePart, parseWeekday, parseWeekdays. -/
import Derived.Test.YteaaknbininehabDoorShelf
import Derived.Test.YteaaknbininehabDoorK0
import Derived.Test.YteaaknbininehabDoorC3
namespace Go.Proofs.YteaaknbininehabDoor
open Go.RowKit
structure GlP (w : World) : Prop where
  gl : Gl (fun _ => False) w
  mx : ∃ m, w.cell? ⟨2, 0, none⟩ = some (.int .i64 m)
theorem GlP.below {w w' : World} (h : GlP w) (hb : Below w.heap.size w w') : GlP w' :=
  ⟨h.gl.mv (Mv.below hb) (Gr.refl _ _), by obtain ⟨m, hm⟩ := h.mx; exact ⟨m, (hb.cell (p := ⟨2, 0, none⟩) (cell_lt hm)).trans hm⟩⟩
def numL : Int → List UInt8 → Option Int
  | n, [] => some n
  | n, b :: l => if 48 ≤ b.toNat ∧ b.toNat ≤ 57 then numL (10 * n + ((b.toNat : Int) - 48)) l else none
def pNum (s : ByteArray) : Int × Bool := if 1 ≤ s.size ∧ s.size ≤ 4 then (((numL 0 s.data.toList).getD 0), (numL 0 s.data.toList).isSome) else (0, false)
theorem size_list (s : ByteArray) : s.data.toList.length = s.size := by rw [Array.length_toList]; rfl
theorem drop_step (s : ByteArray) (k : Nat) (h : k < s.size) : s.data.toList.drop k = s[k] :: s.data.toList.drop (k + 1) := by
  rw [List.drop_eq_getElem_cons (by rw [size_list]; exact h)]; rfl
set_option maxHeartbeats 1000000 in
theorem parseNumber_any (s : ByteArray) (w : World) :
    Calls Tryd.prog 86 #[.string s] w fun e w' => e = .returned (.tuple #[.int .i64 (pNum s).1, .bool (pNum s).2]) ∧ w' = w := by
  by_cases hz : 1 ≤ s.size ∧ s.size ≤ 4
  · have hP : Hid (pNum s = (((numL 0 s.data.toList).getD 0), (numL 0 s.data.toList).isSome)) := by show _ = _; unfold pNum; rw [if_pos hz]
    obtain ⟨z1, z4⟩ := hz
    go_enter Tryd.func86, Tryd.ntmps86
    go_wp2
    go_loop [4, 16] (fun n i => ∃ (k : Nat) (v : Int), k ≤ s.size ∧ i = .int .i64 k ∧ n = .int .i64 v ∧ Hid (numL 0 s.data.toList = numL v (s.data.toList.drop k)) ∧ 0 ≤ v ∧ ((k = 0 ∧ v = 0) ∨ (k = 1 ∧ v ≤ 9) ∨ (k = 2 ∧ v ≤ 99) ∨ (k = 3 ∧ v ≤ 999) ∨ (k = 4 ∧ v ≤ 9999))) (fun _ i => s.size - (intOf i).toNat)
    case atStart => exact ⟨0, 0, by omega, rfl, rfl, rfl, by omega, by omega⟩
    case round =>
      obtain ⟨k, v, hk, rfl, rfl, hh, v0, hv⟩ := hrel
      have v1 : v ≤ 9999 := by omega
      by_cases hlt : k < s.size
      · have hd : Hid (s.data.toList.drop k = s[k] :: s.data.toList.drop (k + 1)) := drop_step s k hlt
        have hv' : Hid ((k = 0 ∧ v = 0) ∨ (k = 1 ∧ v ≤ 9) ∨ (k = 2 ∧ v ≤ 99) ∨ (k = 3 ∧ v ≤ 999) ∨ (k = 4 ∧ v ≤ 9999)) := hv
        clear hv
        have hb := s[k].toNat_lt
        by_cases hc : 48 ≤ s[k].toNat ∧ s[k].toNat ≤ 57
        · have hn : Hid (numL v (s.data.toList.drop k) = numL (10 * v + ((s[k].toNat : Int) - 48)) (s.data.toList.drop (k + 1))) := by show _ = _; rw [hd.out, numL, if_pos hc]
          obtain ⟨c1, c2⟩ := hc
          go_wp2
          refine ⟨⟨k + 1, 10 * v + ((s[k].toNat : Int) - 48), by omega, by go_num, by go_num, hh.out.trans hn.out, by omega, ?_⟩, by simp [intOf]; omega⟩
          have := hv'.out
          omega
        · have hn : Hid (numL v (s.data.toList.drop k) = none) := by show _ = _; rw [hd.out, numL, if_neg hc]
          have hc' : s[k].toNat < 48 ∨ 57 < s[k].toNat := by omega
          clear hc
          rcases hc' with hc | hc
          all_goals
            go_wp2
            go_ret2
            refine ⟨?_, rfl⟩
            rw [hP.out, hh.out, hn.out]; rfl
      · obtain rfl : k = s.size := by omega
        clear hv
        go_wp2
        go_ret2
        refine ⟨?_, rfl⟩
        rw [hP.out, hh.out, List.drop_of_length_le (by rw [size_list]; omega)]; rfl
  · have hP : Hid (pNum s = (0, false)) := by show _ = _; unfold pNum; rw [if_neg hz]
    have hz' : s.size < 1 ∨ 4 < s.size := by omega
    clear hz
    rcases hz' with hz | hz
    all_goals
      go_enter Tryd.func86, Tryd.ntmps86
      go_wp2
      go_ret2
      exact ⟨by rw [hP.out]; rfl, rfl⟩
def cutA (s : ByteArray) (sep : List UInt8) : ByteArray := ⟨(Lib.cut s.data.toList sep).1.toArray⟩
def cutZ (s : ByteArray) (sep : List UInt8) : ByteArray := ⟨(Lib.cut s.data.toList sep).2.1.toArray⟩
def cutF (s : ByteArray) (sep : List UInt8) : Bool := (Lib.cut s.data.toList sep).2.2
theorem cut_any (s sep : ByteArray) (w : World) (hg : GlP w) (hs : s.size ≤ 100000) :
    Calls Tryd.prog 48 #[.string s, .string sep] w fun e w' => e = .returned (.tuple #[.string (cutA s sep.data.toList), .string (cutZ s sep.data.toList), .bool (cutF s sep.data.toList)]) ∧ Below w.heap.size w w' := by
  obtain ⟨m, hm⟩ := hg.mx
  refine (Tryd.strings_Cut s sep m w (by omega) hm).mono ?_
  rintro e w' ⟨rfl, n, rfl⟩
  exact ⟨rfl, below_drewN _ _⟩
theorem cutA_le (s : ByteArray) (sep : List UInt8) : (cutA s sep).size ≤ s.size := by
  have : (Lib.cut s.data.toList sep).1.length ≤ s.data.toList.length := by
    unfold Lib.cut
    split
    · rw [List.length_take]; exact Nat.min_le_right _ _
    · exact Nat.le_refl _
  unfold cutA
  rw [← size_list, ← size_list]
  simpa using this
abbrev str1 (b : UInt8) : ByteArray := ⟨#[b]⟩
def pRow (s : ByteArray) (stepped : Bool) (lo hi : Int) : Part × Bool :=
  if (s.toList == [42]) = true then ((false, lo, hi, 0), stepped)
  else if cutF s [46, 46] = true then ((false, (pNum (cutA s [46, 46])).1, (pNum (cutZ s [46, 46])).1, 0), (pNum (cutA s [46, 46])).2 && (pNum (cutZ s [46, 46])).2)
  else if stepped = true then ((false, (pNum (cutA s [46, 46])).1, hi, 0), (pNum (cutA s [46, 46])).2)
  else ((false, (pNum (cutA s [46, 46])).1, (pNum (cutA s [46, 46])).1, 0), (pNum (cutA s [46, 46])).2)
/-- Two blocks that a call has laid, behind a step that keeps what lay. -/
theorem two_kept {w w1 : World} {a b : Array Value} {ta tb : TypeId} (hb : Below ((w.alloc (.cells a ta)).alloc (.cells b tb)).heap.size ((w.alloc (.cells a ta)).alloc (.cells b tb)) w1) :
    w.heap.size + 1 < w1.heap.size ∧ (∀ j v, a[j]? = some v → w1.cell? ⟨w.heap.size, j, none⟩ = some v) ∧ (∀ j v, b[j]? = some v → w1.cell? ⟨w.heap.size + 1, j, none⟩ = some v) ∧ (∀ j, w1.frozen? ⟨w.heap.size + 1, j, none⟩ = false) := by
  have hz := hb.size
  simp at hz
  refine ⟨by omega, fun j v h => ?_, fun j v h => ?_, fun j => ?_⟩
  · rw [hb.cell (p := ⟨w.heap.size, j, none⟩) (by simp; omega), cell_old (by simp)]; exact cell_at rfl h
  · rw [hb.cell (p := ⟨w.heap.size + 1, j, none⟩) (by simp)]; exact cell_at (by simp) h
  · rw [hb.frozen (p := ⟨w.heap.size + 1, j, none⟩) (by simp)]
    have := World.frozen?_alloc_new (w.alloc (.cells a ta)) b tb j
    rw [World.size_alloc] at this; exact this
theorem below_two {w : World} (o o' : Obj) : Below w.heap.size w ((w.alloc o).alloc o') := ((Below.refl _ w).alloc (Nat.le_refl _) _).alloc (by simp) _
theorem below_set4 {w W : World} {n b : Nat} (h : Below n w W) (hb : n ≤ b) (v0 v1 v2 v3 : Value) : Below n w ((((W.setCell ⟨b, 0, none⟩ v0).setCell ⟨b, 1, none⟩ v1).setCell ⟨b, 2, none⟩ v2).setCell ⟨b, 3, none⟩ v3) :=
  (((h.setCell (p := ⟨b, 0, none⟩) hb _).setCell (p := ⟨b, 1, none⟩) hb _).setCell (p := ⟨b, 2, none⟩) hb _).setCell (p := ⟨b, 3, none⟩) hb _
set_option maxRecDepth 100000 in
set_option maxHeartbeats 2000000 in
theorem parseRow_any (s : ByteArray) (st : Bool) (lo hi : Int) (w : World) (hg : GlP w) (hs : s.size ≤ 100000) :
    Calls Tryd.prog 85 #[.string s, .bool st, .agg #[.int .i64 lo, .int .i64 hi]] w fun e w' => e = .returned (.tuple #[aggP (pRow s st lo hi).1, .bool (pRow s st lo hi).2]) ∧ Below w.heap.size w w' := by
  cases hstar : (s.toList == [42])
  · have hB := below_two (w := w) (.cells #[.int .i64 lo, .int .i64 hi] 74) (.cells #[.bool false, .int .i64 0, .int .i64 0, .int .i64 0] 88)
    obtain ⟨a, ha⟩ : ∃ a, cutA s [46, 46] = a := ⟨_, rfl⟩
    obtain ⟨z, hz⟩ : ∃ z, cutZ s [46, 46] = z := ⟨_, rfl⟩
    cases hf : cutF s [46, 46]
    · cases st
      · have hP : Hid (pRow s false lo hi = ((false, (pNum a).1, (pNum a).1, 0), (pNum a).2)) := by show _ = _; unfold pRow; rw [hstar, hf, ha]; rfl
        go_enter Tryd.func85, Tryd.ntmps85
        go_wp2_with fail
        refine (cut_any s _ _ (hg.below hB) hs).mono ?_
        simp only [ha, hz, hf]
        rintro e w1 ⟨rfl, hb1⟩
        obtain ⟨wl, ca, cb, cf⟩ := two_kept hb1
        have k0 := cb 0 _ rfl
        have k1 := cb 1 _ rfl
        have k2 := cb 2 _ rfl
        have k3 := cb 3 _ rfl
        have f0 := cf 0
        have f1 := cf 1
        have f2 := cf 2
        have f3 := cf 3
        have q0 := ca 0 _ rfl
        have q1 := ca 1 _ rfl
        have hB2 := hB.trans (hb1.mono (by simp; omega))
        clear ca cb cf
        go_wp2_with fail
        refine (parseNumber_any _ _).mono ?_
        rintro e w2 ⟨rfl, rfl⟩
        go_wp2_with fail
        refine bodyPost_ret (v := .tuple #[.agg #[.bool false, .int .i64 (pNum a).1, .int .i64 ((pNum a).1), .int .i64 0], .bool ((pNum a).2)]) (by simp [results, Tryd.results85, go_sem, k0, k1, k2, k3]) rfl ⟨by rw [hP.out]; rfl, ?_⟩
        exact below_set4 hB2 (by omega) _ _ _ _
      · have hP : Hid (pRow s true lo hi = ((false, (pNum a).1, hi, 0), (pNum a).2)) := by show _ = _; unfold pRow; rw [hstar, hf, ha]; rfl
        go_enter Tryd.func85, Tryd.ntmps85
        go_wp2_with fail
        refine (cut_any s _ _ (hg.below hB) hs).mono ?_
        simp only [ha, hz, hf]
        rintro e w1 ⟨rfl, hb1⟩
        obtain ⟨wl, ca, cb, cf⟩ := two_kept hb1
        have k0 := cb 0 _ rfl
        have k1 := cb 1 _ rfl
        have k2 := cb 2 _ rfl
        have k3 := cb 3 _ rfl
        have f0 := cf 0
        have f1 := cf 1
        have f2 := cf 2
        have f3 := cf 3
        have q0 := ca 0 _ rfl
        have q1 := ca 1 _ rfl
        have hB2 := hB.trans (hb1.mono (by simp; omega))
        clear ca cb cf
        go_wp2_with fail
        refine (parseNumber_any _ _).mono ?_
        rintro e w2 ⟨rfl, rfl⟩
        go_wp2_with fail
        refine bodyPost_ret (v := .tuple #[.agg #[.bool false, .int .i64 (pNum a).1, .int .i64 (hi), .int .i64 0], .bool ((pNum a).2)]) (by simp [results, Tryd.results85, go_sem, k0, k1, k2, k3]) rfl ⟨by rw [hP.out]; rfl, ?_⟩
        exact below_set4 hB2 (by omega) _ _ _ _
    · have hP : Hid (pRow s st lo hi = ((false, (pNum a).1, (pNum z).1, 0), (pNum a).2 && (pNum z).2)) := by show _ = _; unfold pRow; rw [hstar, hf, ha, hz]; rfl
      cases hok : (pNum a).2
      all_goals
        go_enter Tryd.func85, Tryd.ntmps85
        go_wp2_with fail
        refine (cut_any s _ _ (hg.below hB) hs).mono ?_
        simp only [ha, hz, hf]
        rintro e w1 ⟨rfl, hb1⟩
        obtain ⟨wl, ca, cb, cf⟩ := two_kept hb1
        have k0 := cb 0 _ rfl
        have k1 := cb 1 _ rfl
        have k2 := cb 2 _ rfl
        have k3 := cb 3 _ rfl
        have f0 := cf 0
        have f1 := cf 1
        have f2 := cf 2
        have f3 := cf 3
        have q0 := ca 0 _ rfl
        have q1 := ca 1 _ rfl
        have hB2 := hB.trans (hb1.mono (by simp; omega))
        clear ca cb cf
        go_wp2_with fail
        refine (parseNumber_any _ _).mono ?_
        rintro e w2 ⟨rfl, rfl⟩
        go_wp2_with fail
        refine (parseNumber_any _ _).mono ?_
        rintro e w2 ⟨rfl, rfl⟩
        go_wp2_with fail
        refine bodyPost_ret (v := .tuple #[.agg #[.bool false, .int .i64 (pNum a).1, .int .i64 (pNum z).1, .int .i64 0], .bool ((pNum a).2 && (pNum z).2)]) (by simp [results, Tryd.results85, go_sem, k0, k1, k2, k3, hok]) rfl ⟨by rw [hP.out]; rfl, ?_⟩
        exact below_set4 hB2 (by omega) _ _ _ _
  · have hP : Hid (pRow s st lo hi = ((false, lo, hi, 0), st)) := by show _ = _; unfold pRow; rw [hstar]; rfl
    go_enter Tryd.func85, Tryd.ntmps85
    go_wp2_with fail
    refine bodyPost_ret (v := .tuple #[.agg #[.bool false, .int .i64 lo, .int .i64 hi, .int .i64 0], .bool st]) (by simp [results, Tryd.results85, go_sem]) rfl ⟨by rw [hP.out]; rfl, ?_⟩
    exact below_two _ _
theorem ret_ib {a b : Int} {c d : Bool} (h : a = b) (k : c = d) : Ending.returned (.tuple #[.int .i64 a, .bool c]) = .returned (.tuple #[.int .i64 b, .bool d]) := by rw [h, k]
def pPart (s : ByteArray) (lo hi : Int) : Part × Bool :=
  if (pRow (cutA s [47]) (cutF s [47]) lo hi).2 = true ∧ cutF s [47] = true then
    (((pRow (cutA s [47]) (cutF s [47]) lo hi).1.1, (pRow (cutA s [47]) (cutF s [47]) lo hi).1.2.1, (pRow (cutA s [47]) (cutF s [47]) lo hi).1.2.2.1, (pNum (cutZ s [47])).1), (pNum (cutZ s [47])).2 && decide (0 < (pNum (cutZ s [47])).1))
  else pRow (cutA s [47]) (cutF s [47]) lo hi
def wdays : List UInt8 := [77, 111, 110, 84, 117, 101, 87, 101, 100, 84, 104, 117, 70, 114, 105, 83, 97, 116, 83, 117, 110]
def wIx (s : ByteArray) : Int := Lib.index wdays s.data.toList
def pWd (s : ByteArray) : Int × Bool := ((wIx s).tdiv 3, decide (s.size = 3) && (decide (0 ≤ wIx s) && decide ((wIx s).tmod 3 = 0)))
set_option maxHeartbeats 2000000 in
theorem parseWeekday_any (s : ByteArray) (w : World) (hg : GlP w) :
    Calls Tryd.prog 49 #[.string s] w fun e w' => e = .returned (.tuple #[.int .i64 (pWd s).1, .bool (pWd s).2]) ∧ w' = w := by
  obtain ⟨m, hm⟩ := hg.mx
  have hr : -1 ≤ wIx s := Lib.index_ge _ _
  have hr2 : wIx s ≤ 21 := Lib.index_le wdays s.data.toList
  have hI : ∀ w : World, w.cell? ⟨2, 0, none⟩ = some (.int .i64 m) → Calls Tryd.prog 50 #[.string { data := #[77, 111, 110, 84, 117, 101, 87, 101, 100, 84, 104, 117, 70, 114, 105, 83, 97, 116, 83, 117, 110] }, .string s] w fun e w' => e = .returned (.int .i64 (wIx s)) ∧ w' = w := fun w hm => Tryd.strings_Index _ s m w (by decide) hm
  unfold pWd
  obtain ⟨x, hxe⟩ : ∃ x, wIx s = x := ⟨_, rfl⟩
  simp only [hxe] at hr hr2 hI ⊢
  clear hxe
  have hx : x = -1 ∨ (0 ≤ x ∧ x ≤ 21) := by omega
  by_cases h3 : s.size = 3
  all_goals
    rcases hx with rfl | ⟨x0, x1⟩
    all_goals
      go_enter Tryd.func49, Tryd.ntmps49
      go_wp2_with fail
      refine (hI _ hm).mono ?_
      rintro e w1 ⟨rfl, rfl⟩
      go_wp2_with fail
      go_ret2
      refine ⟨ret_ib ?_ ?_, rfl⟩
      · first
          | exact (Int.tdiv_eq_ediv_of_nonneg x0).symm
          | decide
      · first
          | (simp [h3]; done)
          | (rw [Int.tmod_eq_emod_of_nonneg x0, Bool.eq_iff_iff]; simp [h3, x0]; done)
def pWds (s : ByteArray) : Part × Bool :=
  if cutF s [46, 46] = true then ((false, (pWd (cutA s [46, 46])).1, (pWd (cutZ s [46, 46])).1, 0), (pWd (cutA s [46, 46])).2 && (pWd (cutZ s [46, 46])).2)
  else ((false, (pWd (cutA s [46, 46])).1, (pWd (cutA s [46, 46])).1, 0), (pWd (cutA s [46, 46])).2 && (pWd (cutA s [46, 46])).2)
theorem one_kept {w w1 : World} {b : Array Value} {tb : TypeId} (hb : Below (w.alloc (.cells b tb)).heap.size (w.alloc (.cells b tb)) w1) :
    w.heap.size < w1.heap.size ∧ (∀ j v, b[j]? = some v → w1.cell? ⟨w.heap.size, j, none⟩ = some v) ∧ (∀ j, w1.frozen? ⟨w.heap.size, j, none⟩ = false) := by
  have hz := hb.size
  simp at hz
  refine ⟨by omega, fun j v h => ?_, fun j => ?_⟩
  · rw [hb.cell (p := ⟨w.heap.size, j, none⟩) (by simp)]; exact cell_at rfl h
  · rw [hb.frozen (p := ⟨w.heap.size, j, none⟩) (by simp)]; exact World.frozen?_alloc_new _ _ _ _
set_option maxRecDepth 100000 in
set_option maxHeartbeats 2000000 in
theorem parseWeekdays_any (s : ByteArray) (w : World) (hg : GlP w) (hs : s.size ≤ 100000) :
    Calls Tryd.prog 27 #[.string s] w fun e w' => e = .returned (.tuple #[aggP (pWds s).1, .bool (pWds s).2]) ∧ Below w.heap.size w w' := by
  have hB : Below w.heap.size w (w.alloc (.cells #[.bool false, .int .i64 0, .int .i64 0, .int .i64 0] 88)) := (Below.refl _ _).alloc (Nat.le_refl _) _
  obtain ⟨a, ha⟩ : ∃ a, cutA s [46, 46] = a := ⟨_, rfl⟩
  obtain ⟨z, hz⟩ : ∃ z, cutZ s [46, 46] = z := ⟨_, rfl⟩
  cases hf : cutF s [46, 46]
  · have hP : Hid (pWds s = ((false, (pWd a).1, (pWd a).1, 0), (pWd a).2 && (pWd a).2)) := by show _ = _; unfold pWds; rw [hf, ha]; rfl
    cases hok : (pWd a).2
    all_goals
      go_enter Tryd.func27, Tryd.ntmps27
      go_wp2_with fail
      refine (cut_any s _ _ (hg.below hB) hs).mono ?_
      simp only [ha, hz, hf]
      rintro e w1 ⟨rfl, hb1⟩
      obtain ⟨wl, cb, cf⟩ := one_kept hb1
      have k0 := cb 0 _ rfl
      have k1 := cb 1 _ rfl
      have k2 := cb 2 _ rfl
      have k3 := cb 3 _ rfl
      have f0 := cf 0
      have f1 := cf 1
      have f2 := cf 2
      have f3 := cf 3
      have hB2 := hB.trans (hb1.mono (by simp))
      have hg1 := hg.below hB2
      clear cb cf
      go_wp2_with fail
      refine (parseWeekday_any a _ hg1).mono ?_
      rintro e w2 ⟨rfl, rfl⟩
      go_wp2_with fail
      refine (parseWeekday_any a _ hg1).mono ?_
      rintro e w2 ⟨rfl, rfl⟩
      go_wp2_with fail
      refine bodyPost_ret (v := .tuple #[.agg #[.bool false, .int .i64 (pWd a).1, .int .i64 (pWd a).1, .int .i64 0], .bool ((pWd a).2 && (pWd a).2)]) (by simp [results, Tryd.results27, go_sem, k0, k1, k2, k3, hok]) rfl ⟨by rw [hP.out]; rfl, ?_⟩
      exact below_set4 hB2 (by omega) _ _ _ _
  · have hP : Hid (pWds s = ((false, (pWd a).1, (pWd z).1, 0), (pWd a).2 && (pWd z).2)) := by show _ = _; unfold pWds; rw [hf, ha, hz]; rfl
    cases hok : (pWd a).2
    all_goals
      go_enter Tryd.func27, Tryd.ntmps27
      go_wp2_with fail
      refine (cut_any s _ _ (hg.below hB) hs).mono ?_
      simp only [ha, hz, hf]
      rintro e w1 ⟨rfl, hb1⟩
      obtain ⟨wl, cb, cf⟩ := one_kept hb1
      have k0 := cb 0 _ rfl
      have k1 := cb 1 _ rfl
      have k2 := cb 2 _ rfl
      have k3 := cb 3 _ rfl
      have f0 := cf 0
      have f1 := cf 1
      have f2 := cf 2
      have f3 := cf 3
      have hB2 := hB.trans (hb1.mono (by simp))
      have hg1 := hg.below hB2
      clear cb cf
      go_wp2_with fail
      refine (parseWeekday_any a _ hg1).mono ?_
      rintro e w2 ⟨rfl, rfl⟩
      go_wp2_with fail
      refine (parseWeekday_any z _ hg1).mono ?_
      rintro e w2 ⟨rfl, rfl⟩
      go_wp2_with fail
      refine bodyPost_ret (v := .tuple #[.agg #[.bool false, .int .i64 (pWd a).1, .int .i64 (pWd z).1, .int .i64 0], .bool ((pWd a).2 && (pWd z).2)]) (by simp [results, Tryd.results27, go_sem, k0, k1, k2, k3, hok]) rfl ⟨by rw [hP.out]; rfl, ?_⟩
      exact below_set4 hB2 (by omega) _ _ _ _
end Go.Proofs.YteaaknbininehabDoor
