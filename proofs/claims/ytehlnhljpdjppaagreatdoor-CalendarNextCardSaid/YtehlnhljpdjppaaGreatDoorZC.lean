import Derived.RangeFuncNested
import Derived.RangeFuncBound
import Derived.RangeFuncCalls
import Derived.RangeFuncLeaves
import Derived.RangeFuncFrom
import Derived.Shelf.Abstract
import Derived.Shelf.RegionOpen
import Derived.OwnWalkIn
import Derived.TacticsInMore
import Derived.LoopNIn
import Derived.LoopIn
import Derived.Test.YtehlnhljpdjppaaGreatDoorZA
import Derived.Deep.RegionHeld3
import Derived.Test.YtehlnhljpdjppaaGreatDoorZB
/- Contracts of package civil's months, and of the function that it gives: the months of a year with their lengths, each once, rising, as far as they are asked for. -/
namespace Go.Proofs.YtehlnhljpdjppaaGreatDoor
open Go.RowKit Go.Shelf
attribute [local go_sem] Oper.semAt_some
/-- What a round that goes on keeps: the cells of the lengths, and of the block by. -/
def KpM (bx : Nat) (W W' : World) : Prop := ∀ b o, (b = 1 ∨ b = bx) → W'.cell? ⟨b, o, none⟩ = W.cell? ⟨b, o, none⟩
theorem KpM.trans {bx : Nat} {A B C : World} (h : KpM bx A B) (h' : KpM bx B C) : KpM bx A C := fun b o hb => (h' b o hb).trans (h b o hb)
theorem KpM.refl (bx : Nat) (A : World) : KpM bx A A := fun _ _ _ => rfl
theorem putObj_cell {W : World} {r : Nat} {o : Obj} {a : Addr} (h : a.block ≠ r) : (W.putObj r o).cell? a = W.cell? a := World.cell?_of_block (World.putObj_heap_other h)
theorem KpM.put {bx n : Nat} (hb : bx < n) (h1 : 1 < n) (W : World) (l : Nat) (o o' : Obj) (hl : n ≤ l) (_ : W.heap[l]? = some o) (_ : o.isCells = false) (_ : o.isWalk = false) : KpM bx W (W.putObj l o') := fun b off h => putObj_cell (by
  show b ≠ l
  rcases h with rfl | rfl <;> omega)
theorem KpM.len {bx : Nat} {A B : World} (h : KpM bx A B) (hT : LenIn A) : LenIn B := fun j v hv => (h 1 j (.inl rfl)).trans (hT j v hv)
theorem KpM.setCell {bx : Nat} (W : World) (b o : Nat) (v : Value) (h0 : b ≠ 1) (h1 : b ≠ bx) : KpM bx W (W.setCell ⟨b, o, none⟩ v) := fun b' o' h => World.cell?_setCell_other _ _ _ _ (by
  intro e
  cases e
  rcases h with h | h
  · exact h0 h
  · exact h1 h)
def mEnc (y : Int) (x : Fin 12) : Array Value := #[.int .i64 ((x.val : Int) + 1), .int .i64 (Civ.dim y ((x.val : Int) + 1))]
theorem fin_take (k : Nat) (h : k < 12) : (List.finRange 12).take (k + 1) = (List.finRange 12).take k ++ [⟨k, h⟩] := by
  rw [List.take_succ_eq_append_getElem (by simpa using h)]; simp
theorem fin_len (k : Nat) (h : k ≤ 12) : ((List.finRange 12).take k).length = k := by simp; omega
set_option maxHeartbeats 400000 in
theorem months_any (y : Int) (w : World) :
    Calls Tryz.prog 48 #[.int .i64 y] w fun e w' => e = .returned (.func (.func 71) #[] #[.pointer (some ⟨w.heap.size, 0, none⟩)]) ∧ w' = w.alloc (.cells #[.int .i64 y] 3) := by
  go_enter Tryz.func48, Tryz.ntmps48
  go_wp2
  go_ret
  exact ⟨rfl, rfl⟩
set_option maxRecDepth 100000 in
set_option maxHeartbeats 2000000 in
theorem months1_in (n l bx : Nat) (y : Int) (y0 : 0 ≤ y) (y1 : y ≤ 100000) (J Jx : List (Fin 12) → World → Prop)
    (hY : ∀ pre x W, J pre W → pre.length < 12 → YieldAt Fence.wide (n - 1) Tryz.prog l (mEnc y x) W fun e W' =>
      (e = .returned (.bool true) ∧ J (pre ++ [x]) W' ∧ KpM bx W W') ∨ (e = .returned (.bool false) ∧ Jx (pre ++ [x]) W'))
    (W : World) (hT : LenIn W) (hc : W.cell? ⟨bx, 0, none⟩ = some (.int .i64 y)) (h0 : J [] W) :
    CallsIn Fence.wide n Tryz.prog 71 #[.func (.yield l) #[] #[], .pointer (some ⟨bx, 0, none⟩)] W fun e W' => (∃ v, e = .returned v) ∧
      ((∃ ys, ys = List.finRange 12 ∧ J ys W') ∨ (∃ pre, (∃ k, k ≤ 12 ∧ pre = (List.finRange 12).take k) ∧ Jx pre W')) := by
  refine callsIn_of_wp Tryz.func71 rfl trivial ?_ rfl
  simp only [Tryz.ntmps71, List.size_toArray, List.length_cons, List.length_nil, Nat.reduceAdd, Nat.reduceSub, Array.replicate_succ, Array.replicate_zero, List.push_toArray, List.append_toArray, List.nil_append, List.cons_append]
  gi_wp2
  gi_loopw [3] (fun i wr => ∃ k : Nat, k ≤ 12 ∧ i = .int .i64 ((k : Int) + 1) ∧ J ((List.finRange 12).take k) wr ∧ KpM bx W wr) (fun i _ => 13 - (intOf i).toNat)
  case atStart => exact ⟨0, by omega, rfl, h0, KpM.refl _ _⟩
  case round =>
    obtain ⟨k, hk, rfl, hJs, hKs⟩ := hrel
    by_cases hlt : k < 12
    · obtain ⟨fn, tmps, assign, body, hy, hR⟩ := hY _ ⟨k, hlt⟩ wr hJs (by rw [fin_len k hk]; exact hlt)
      dsimp only [mEnc] at hy
      have hcx : wr.cell? ⟨bx, 0, none⟩ = some (.int .i64 y) := (hKs bx 0 (.inr rfl)).trans hc
      have hTx := hKs.len hT
      gi_wp2
      refine ⟨trivial, fun h => (by cases h), ?_⟩
      refine (callsIn_wide.2 (length_any _ _ _ hTx (by omega) (by omega) (by omega) (by omega))).mono ?_
      rintro e w' ⟨rfl, rfl⟩
      gi_wp2
      refine ⟨fun h => (by cases h), ?_⟩
      refine hR.mono ?_
      rintro e W3 (⟨rfl, hJ3, hk3⟩ | ⟨rfl, hJx3⟩)
      · gi_wp2
        exact ⟨⟨k + 1, by omega, by go_num, by rw [fin_take k hlt]; exact hJ3, hKs.trans hk3⟩, by simp [intOf]; omega⟩
      · gi_wp2
        refine bodyPost_ret (results_none rfl _ _ _) rfl ?_
        exact ⟨⟨_, rfl⟩, .inr ⟨_, ⟨k + 1, by omega, (fin_take k hlt).symm⟩, hJx3⟩⟩
    · obtain rfl : k = 12 := by omega
      gi_wp2
      go_end0
      exact ⟨⟨_, rfl⟩, .inl ⟨_, by rw [List.take_of_length_le (by simp)], hJs⟩⟩
/-- The function that 'months' gives: all twelve, in order; or the first k of them. -/
theorem months_stops (n bx : Nat) (y : Int) (y0 : 0 ≤ y) (y1 : y ≤ 100000) (w : World) (hT : LenIn w) (hb : bx < w.heap.size) (hc : w.cell? ⟨bx, 0, none⟩ = some (.int .i64 y)) :
    SeqStopsK Fence.wide n Tryz.prog 71 #[.pointer (some ⟨bx, 0, none⟩)] (mEnc y) (KpM bx) (fun ys => ys = List.finRange 12) (fun pre => ∃ k, k ≤ 12 ∧ pre = (List.finRange 12).take k) 12 w := fun l J Jx W hW _ _ hY h0 =>
  months1_in n l bx y y0 y1 J Jx hY W (hT.below hT.pos hW) ((hW.cell (p := ⟨bx, 0, none⟩) hb).trans hc) h0
end Go.Proofs.YtehlnhljpdjppaaGreatDoor
/- The contract of package civil's Days. -/
namespace Go.Proofs.YtehlnhljpdjppaaGreatDoor
open Go.RowKit Go.Shelf
attribute [local go_sem] Oper.semAt_some
theorem i64w (x : Int) (h : 0 ≤ x) (h' : x ≤ 9223372036854775807) : IntKind.i64.wrap x = x := by
  show (if (true && decide (x % 18446744073709551616 ≥ 9223372036854775808)) = true then x % 18446744073709551616 - 18446744073709551616 else x % 18446744073709551616) = x
  have e : x % 18446744073709551616 = x := Int.emod_eq_of_lt h (by omega)
  rw [e]
  simp
  omega
theorem cell_of_box_l {W : World} {B : Nat} {v : Value} {t : TypeId} (h : W.heap[B]? = some (.cells #[v] t (0, 0))) : W.cell? ⟨B, 0, none⟩ = some v ∧ W.frozen? ⟨B, 0, none⟩ = false := by
  constructor <;> simp [World.cell?, World.frozen?, h]
theorem cell_new_l (W : World) (v : Value) (t : TypeId) : (W.alloc (.cells #[v] t)).cell? ⟨W.heap.size, 0, none⟩ = some v ∧ (W.alloc (.cells #[v] t)).frozen? ⟨W.heap.size, 0, none⟩ = false := cell_of_box_l (World.alloc_heap_new W _)
theorem cell_alloc_l {W : World} {a : Addr} {v : Value} (o : Obj) (h : W.cell? a = some v) : (W.alloc o).cell? a = some v := cell_kept h (World.grownBy_alloc W o none) (fun r e => by cases e)
theorem frozen_alloc_l {W : World} {a : Addr} {v : Value} (o : Obj) (h : W.cell? a = some v) (hf : W.frozen? a = false) : (W.alloc o).frozen? a = false := (frozen_kept h (World.grownBy_alloc W o none) (fun r e => by cases e)).trans hf
/-- The lengths of the months that have come, together. -/
def sumL (y : Int) (pre : List (Fin 12)) : Int := (pre.map fun x => Civ.dim y ((x.val : Int) + 1)).sum
theorem sumL_snoc (y : Int) (pre : List (Fin 12)) (x : Fin 12) : sumL y (pre ++ [x]) = sumL y pre + Civ.dim y ((x.val : Int) + 1) := by simp [sumL]
theorem sumL_bd (y : Int) (pre : List (Fin 12)) : 0 ≤ sumL y pre ∧ sumL y pre ≤ 31 * pre.length := by
  induction pre with
  | nil => simp [sumL]
  | cons x r ih =>
    have h := Civ.dim_bd y ((x.val : Int) + 1)
    have e : sumL y (x :: r) = Civ.dim y ((x.val : Int) + 1) + sumL y r := by simp [sumL]
    rw [e, List.length_cons]; omega
theorem sumL_take (y : Int) : ∀ k, k ≤ 12 → sumL y ((List.finRange 12).take k) = Civ.cum y k
  | 0, _ => rfl
  | k + 1, h => by rw [fin_take k h, sumL_snoc, sumL_take y k (by omega)]; rfl
theorem pre_last {k : Nat} (hk : k ≤ 12) {p : List (Fin 12)} {x : Fin 12} (h : (List.finRange 12).take k = p ++ [x]) : p = (List.finRange 12).take x.val := by
  cases k with
  | zero => simp at h
  | succ k =>
    rw [fin_take k hk] at h
    obtain ⟨h1, h2⟩ := List.append_inj' h rfl
    cases h2
    exact h1.symm
set_option maxRecDepth 100000 in
set_option maxHeartbeats 2000000 in
theorem days_yes (y m d : Int) (w : World) (hT : LenIn w) (hv : Civ.vldB y m d = true) :
    Calls Tryz.prog 25 #[.agg #[.int .i64 y, .int .i64 m, .int .i64 d]] w fun e w' => e = .returned (.tuple #[.int .i64 (Civ.num y m d), .int .i64 0]) ∧ Below w.heap.size w w' := by
  obtain ⟨a, b, c, e, f, g⟩ := Civ.vldB_iff.1 hv
  have dm := Civ.dim_bd y m
  have db := Civ.dby_bd (y := y) (by omega) (by omega)
  have hT1 := hT.alloc (.cells #[.int .i64 y, .int .i64 m, .int .i64 d] 26)
  refine (callsIn_wide (n := 5)).1 ?_
  refine callsIn_of_wp_marks Tryz.func25 rfl trivial ?_ rfl
  simp only [Tryz.ntmps25, List.size_toArray, List.length_cons, List.length_nil, Nat.reduceAdd, Nat.reduceSub, Array.replicate_succ, Array.replicate_zero, List.push_toArray, List.append_toArray, List.nil_append, List.cons_append]
  refine wpIn_wide.2 ?_
  go_wp2_with fail
  refine (is_any y m d _ hT1).mono ?_
  rintro e w1 ⟨rfl, hb1⟩
  have hz1 := hb1.size
  simp at hz1
  have hz2 : w.heap.size < w1.heap.size := by omega
  have v1 : IntKind.i64.wrap (Civ.dby y + d) = Civ.dby y + d := i64w _ (by omega) (by omega)
  have v2 : IntKind.i64.wrap (Civ.dby y + d - 1) = Civ.dby y + d - 1 := i64w _ (by omega) (by omega)
  have k0 : w1.cell? ⟨w.heap.size, 0, none⟩ = some (.int .i64 y) := by rw [hb1.cell (by simp)]; simp
  have k1 : w1.cell? ⟨w.heap.size, 1, none⟩ = some (.int .i64 m) := by rw [hb1.cell (by simp)]; simp
  have k2 : w1.cell? ⟨w.heap.size, 2, none⟩ = some (.int .i64 d) := by rw [hb1.cell (by simp)]; simp
  go_wp2_with fail
  go_region_held3 (fun w' => w'.cell? ⟨w.heap.size, 0, none⟩ = some (.int .i64 y) ∧ w'.cell? ⟨w.heap.size, 2, none⟩ = some (.int .i64 d))
    (first | assumption | (go_split_ands; refine ⟨?_, ?_⟩ <;> assumption) | go_keep)
    (first | (go_at_call 47; refine (ahead_any _ _ (by omega) (by omega)).mono ?_; rintro e w2 ⟨rfl, rfl⟩))
  go_split_ands
  go_wp2_with fail
  all_goals (refine (months_any _ _).mono ?_; rintro e w2 ⟨rfl, rfl⟩)
  all_goals go_wp2_with fail
  all_goals
    have hB0 : Below w.heap.size w (((w1.alloc (.cells #[.int .i64 (Civ.dby y + d - 1)] 3)).alloc (.cells #[.int .i64 y] 3)).drew) :=
      ((((((Below.refl _ w).alloc (Nat.le_refl _) _).trans (hb1.mono (by simp))).alloc (by omega) _).alloc (by simp; omega) _).drew)
    have hs : (((w1.alloc (.cells #[.int .i64 (Civ.dby y + d - 1)] 3)).alloc (.cells #[.int .i64 y] 3)).drew).heap.size = w1.heap.size + 2 := by simp
    have c1 : (((w1.alloc (.cells #[.int .i64 (Civ.dby y + d - 1)] 3)).alloc (.cells #[.int .i64 y] 3)).drew).cell? ⟨w.heap.size, 1, none⟩ = some (.int .i64 m) := by
      rw [World.cell?_drew, World.cell?_alloc_lt _ _ _ (by simp; omega), World.cell?_alloc_lt _ _ _ (by simp; omega)]; exact k1
    have c2 : (((w1.alloc (.cells #[.int .i64 (Civ.dby y + d - 1)] 3)).alloc (.cells #[.int .i64 y] 3)).drew).cell? ⟨w1.heap.size, 0, none⟩ = some (.int .i64 (Civ.dby y + d - 1)) := by
      rw [World.cell?_drew, World.cell?_alloc_lt _ _ _ (by simp)]; exact (cell_new_l _ _ _).1
    have f2 : (((w1.alloc (.cells #[.int .i64 (Civ.dby y + d - 1)] 3)).alloc (.cells #[.int .i64 y] 3)).drew).frozen? ⟨w1.heap.size, 0, none⟩ = false := by
      show ((w1.alloc (.cells #[.int .i64 (Civ.dby y + d - 1)] 3)).alloc (.cells #[.int .i64 y] 3)).frozen? ⟨w1.heap.size, 0, none⟩ = false
      exact frozen_alloc_l _ (cell_new_l _ _ _).1 (cell_new_l _ _ _).2
    have c3 : (((w1.alloc (.cells #[.int .i64 (Civ.dby y + d - 1)] 3)).alloc (.cells #[.int .i64 y] 3)).drew).cell? ⟨w1.heap.size + 1, 0, none⟩ = some (.int .i64 y) := by
      have := (cell_new_l (w1.alloc (.cells #[.int .i64 (Civ.dby y + d - 1)] 3)) (.int .i64 y) 3).1
      rw [World.size_alloc] at this
      rw [World.cell?_drew]; exact this
    revert hB0 hs c1 c2 f2 c3
    generalize ((w1.alloc (.cells #[.int .i64 (Civ.dby y + d - 1)] 3)).alloc (.cells #[.int .i64 y] 3)).drew = W0
    intro hB0 hs c1 c2 f2 c3
    have hT0 : LenIn W0 := hT.below hT.pos hB0
    have hpos := hT.pos
    clear k0 k1 k2 v1 v2 hb1 hT1
    refine (wpIn_wide (n := 5)).1 ?_
    refine wpIn_rangeFunc_ownF rfl (by omega) (gf := 71) (lb := #[.pointer (some ⟨w1.heap.size + 1, 0, none⟩)]) rfl trivial (enters_of Tryz.func71 (by kernel_rfl) rfl)
      (months_stops (5 - 1) (w1.heap.size + 1) y (by omega) (by omega) W0 hT0 (by omega) c3) KpM.trans (KpM.put (by omega) (by omega)) (Below.refl _ _) (fun _ => rfl)
      (fun pre W => ((∀ x ∈ pre, (x.val : Int) + 1 ≠ m) ∧ W.cell? ⟨w.heap.size, 1, none⟩ = some (.int .i64 m) ∧ W.cell? ⟨w1.heap.size, 0, none⟩ = some (.int .i64 (Civ.dby y + d - 1 + sumL y pre)) ∧ W.frozen? ⟨w1.heap.size, 0, none⟩ = false) ∧ Below w.heap.size w W)
      (fun c pre W => (c = .exit 0 ∧ ∃ p x, pre = p ++ [x] ∧ (x.val : Int) + 1 = m ∧ W.cell? ⟨w1.heap.size, 0, none⟩ = some (.int .i64 (Civ.dby y + d - 1 + sumL y p))) ∧ Below w.heap.size w W)
      (OwnFrom.and (Own.from (fun s A B row hs hg hr => ⟨hs.1, cell_kept hs.2.1 hg hr, cell_kept hs.2.2.1 hg hr, (frozen_kept hs.2.2.1 hg hr).trans hs.2.2.2⟩) _) (ownFrom_below (Nat.le_refl _) (by omega)))
      (fun c => OwnFrom.and (Own.from (fun s A B row hs hg hr => ⟨hs.1, by obtain ⟨p, x, e, hx, hc⟩ := hs.2; exact ⟨p, x, e, hx, cell_kept hc hg hr⟩⟩) _) (ownFrom_below (Nat.le_refl _) (by omega)))
      ⟨⟨by simp, c1, by simpa [sumL] using c2, f2⟩, hB0⟩
      (fun x => { tmps := #[.agg #[.int .i64 y, .int .i64 m, .int .i64 d], .pointer (some ⟨w.heap.size, 0, none⟩), .int .i64 0, .int .i64 0, .pointer (some ⟨w1.heap.size, 0, none⟩), .int .i64 ((x.val : Int) + 1), .int .i64 (Civ.dim y ((x.val : Int) + 1)), .agg #[.int .i64 y, .int .i64 m, .int .i64 d], .bool true, .bool false, .pointer (some ⟨w.heap.size, 0, none⟩), .int .i64 y, .int .i64 (Civ.dby y), .pointer (some ⟨w.heap.size, 2, none⟩), .int .i64 d, .int .i64 (Civ.dby y + d), .int .i64 (Civ.dby y + d - 1), .pointer (some ⟨w.heap.size, 0, none⟩), .int .i64 y, .func (.func 71) #[] #[.pointer (some ⟨w1.heap.size + 1, 0, none⟩)], .int .i64 ((x.val : Int) + 1), .int .i64 (Civ.dim y ((x.val : Int) + 1)), undef, undef, undef, undef, undef, undef, undef, undef], defers := [] }) ?assign ?body ?done ?stop
    case assign =>
      intro l x W K hK
      simp only [mEnc]
      gi_wp2
      exact hK
    case body =>
      rintro l pre x W ⟨⟨hp, hm1, hc, hf⟩, hB⟩ hlen
      have sb := sumL_bd y pre
      have xb := Civ.dim_bd y ((x.val : Int) + 1)
      by_cases hx : (x.val : Int) + 1 = m
      · have hx' : ((x.val : Int) + 1 == m) = true := by simpa using hx
        gi_wp2
        exact ⟨KeepsOthers.refl _, ⟨rfl, pre, x, rfl, hx, hc⟩, hB⟩
      · have hx' : ((x.val : Int) + 1 == m) = false := by simpa using hx
        gi_wp2
        exact ⟨KeepsOthers.setCell _ _ _, KpM.setCell W w1.heap.size 0 _ (by omega) (by omega), ⟨fun z hz => (List.mem_append.1 hz).elim (hp z) (fun e => by simp at e; rw [e]; exact hx), (World.cell?_setCell_other _ _ _ _ (by simp)).trans hm1, by rw [sumL_snoc, ← Int.add_assoc]; exact World.cell?_setCell_same' _ _ _ (by rw [hc]; rfl), by rw [World.frozen?_setCell]; exact hf⟩, hB.setCell (p := ⟨w1.heap.size, 0, none⟩) (by simp; omega) _⟩
    case done =>
      rintro D ys W hD rfl ⟨⟨hp, _⟩, hB⟩ hK
      exact absurd (show (((⟨(m - 1).toNat, by omega⟩ : Fin 12).val : Int) + 1 = m) by simp; omega) (hp _ (List.mem_finRange _))
    case stop =>
      rintro D c pre W hD ⟨k, hk, rfl⟩ ⟨⟨rfl, p, x, hpx, hx, hc⟩, hB⟩ hK
      refine (wpIn_wide (n := 5)).2 ?_
      have hnum : Civ.dby y + d - 1 + sumL y p = Civ.num y m d := by
        rw [pre_last hk hpx, sumL_take y _ (by omega)]
        unfold Civ.num
        rw [show (m - 1).toNat = x.val by omega]; omega
      rw [hnum] at hc
      go_wp2
      refine ⟨by simp, .inl ⟨_, _, rfl, run_takeDeferred hK, ?_⟩⟩
      exact ⟨_, results_tmp2 rfl _ _ _, rfl, hB.trans (belowK_b (w := w) (Nat.le_refl _) W D _ _ (by omega) hK rfl rfl)⟩
set_option maxRecDepth 100000 in
set_option maxHeartbeats 1000000 in
theorem days_no (y m d : Int) (w : World) (hT : LenIn w) (hv : Civ.vldB y m d = false) :
    Calls Tryz.prog 25 #[.agg #[.int .i64 y, .int .i64 m, .int .i64 d]] w fun e w' => e = .returned (.tuple #[.int .i64 0, .int .i64 20]) ∧ Below w.heap.size w w' := by
  have hT1 := hT.alloc (.cells #[.int .i64 y, .int .i64 m, .int .i64 d] 26)
  go_enter Tryz.func25, Tryz.ntmps25
  go_wp2_with fail
  refine (is_any y m d _ hT1).mono ?_
  rintro e w1 ⟨rfl, hb1⟩
  go_wp2_with fail
  go_ret2
  exact ⟨rfl, ((Below.refl _ w).alloc (Nat.le_refl _) _).trans (hb1.mono (by simp))⟩
def daysV (y m d : Int) : Int := if Civ.vldB y m d = true then Civ.num y m d else 0
def daysE (y m d : Int) : Int := if Civ.vldB y m d = true then 0 else 20
theorem days_any (y m d : Int) (w : World) (hT : LenIn w) :
    Calls Tryz.prog 25 #[.agg #[.int .i64 y, .int .i64 m, .int .i64 d]] w fun e w' => e = .returned (.tuple #[.int .i64 (daysV y m d), .int .i64 (daysE y m d)]) ∧ Below w.heap.size w w' := by
  unfold daysV daysE
  cases hv : Civ.vldB y m d
  · exact days_no y m d w hT hv
  · exact days_yes y m d w hT hv
end Go.Proofs.YtehlnhljpdjppaaGreatDoor
/- Contracts of package civil's Month as a row, and of the dates of it whose day is in a list. -/
namespace Go.Proofs.YtehlnhljpdjppaaGreatDoor
open Go.RowKit Go.Shelf
attribute [local go_sem] Oper.semAt_some
def encD (y m d : Int) : Array Value := #[.agg #[.int .i64 y, .int .i64 m, .int .i64 d]]
set_option maxRecDepth 100000 in
set_option maxHeartbeats 2000000 in
theorem month1_row (y m : Int) (bx bm : Nat) (E : Nat → Prop) (W : World) (hv : Civ.monB y m = true) (hy : Bx E W bx (.int .i64 y)) (hmm : Bx E W bm (.int .i64 m)) (hgl : Gl E W) :
    Row Tryz.prog 82 #[.pointer (some ⟨bx, 0, none⟩), .pointer (some ⟨bm, 0, none⟩)] (encD y m) (Cal.rng 1 (Civ.dim y m)) E W := by
  obtain ⟨y0, y1, m0, m1⟩ := Civ.monB_iff.1 hv
  have dm := Civ.dim_bd y m
  intro l J Jx E1 V mv g hJ hJx hY h0
  have a1 := hy.mv mv g
  have a2 := hmm.mv mv g
  have a3 := hgl.mv mv g
  have k1 := a1.c
  have k2 := a2.c
  refine (callsIn_wide (n := 5)).1 ?_
  refine callsIn_of_wp Tryz.func82 rfl trivial ?_ rfl
  simp only [Tryz.ntmps82, List.size_toArray, List.length_cons, List.length_nil, Nat.reduceAdd, Nat.reduceSub, Array.replicate_succ, Array.replicate_zero, List.push_toArray, List.append_toArray, List.nil_append, List.cons_append]
  gi_wp2_with fail
  refine ⟨trivial, (callsIn_wide.2 (isMonth_any y m _)).mono ?_⟩
  rintro e w1 ⟨rfl, rfl⟩
  gi_wp2_with fail
  clear k1 k2
  gi_loopw [4] (fun i wr => ∃ (k : Int) (E2 : Nat → Prop), 1 ≤ k ∧ k ≤ Civ.dim y m + 1 ∧ i = .int .i64 k ∧ J (Cal.rng k (Civ.dim y m)) E2 wr ∧ Mv E1 w1 wr ∧ Gr E1 w1 E2) (fun i _ => (100 - intOf i).toNat)
  case atStart => exact ⟨1, E1, by omega, by omega, rfl, h0, Mv.refl _ _, Gr.refl _ _⟩
  case round =>
    obtain ⟨k, E2, k0, k1, rfl, hj, hm, hg⟩ := hrel
    have b1 := a1.mv hm hg
    have b2 := a2.mv hm hg
    have b3 := a3.mv hm hg
    have c1 := b1.c
    have c2 := b2.c
    by_cases hk : k ≤ Civ.dim y m
    · rw [Cal.rng_cons hk] at hj
      obtain ⟨fn, tmps, assign, body, hy, hR⟩ := hY k _ E2 wr hj
      dsimp only [encD] at hy
      gi_wp2_with fail
      refine ⟨trivial, (callsIn_wide.2 (length_any y m _ b3.len (by omega) (by omega) m0 m1)).mono ?_⟩
      rintro e w2 ⟨rfl, rfl⟩
      gi_wp2_with fail
      refine (wide_round' hR).mono ?_
      rintro e W3 ⟨m3, (⟨rfl, E3, g3, hj3⟩ | ⟨rfl, E3, g3, hj3⟩)⟩
      · gi_wp2_with fail
        exact ⟨⟨k + 1, E3, by omega, by omega, rfl, hj3, hm.trans hg m3, hg.trans hm.size g3⟩, by simp [intOf]; omega⟩
      · gi_wp2_with fail
        refine bodyPost_ret (results_none rfl _ _ _) rfl ?_
        exact ⟨⟨_, rfl⟩, hm.trans hg m3, .inr ⟨E3, hg.trans hm.size g3, hj3⟩⟩
    · rw [Cal.rng_nil (by omega)] at hj
      gi_wp2_with fail
      refine ⟨trivial, (callsIn_wide.2 (length_any y m _ b3.len (by omega) (by omega) m0 m1)).mono ?_⟩
      rintro e w2 ⟨rfl, rfl⟩
      gi_wp2_with fail
      go_end0
      exact ⟨⟨_, rfl⟩, hm, .inl ⟨E2, hg, hj⟩⟩
set_option maxHeartbeats 1000000 in
theorem dayIn_any (c : Cal.C7) (y m d : Int) (bc : Nat) (S : Nat → Sl) (E : Nat → Prop) (w : World) (hb : CalBox E w bc S c) (hp : CalPin E w S c) (ho : CalOk c) (h0 : 0 ≤ d) (h1 : d ≤ 100) :
    Calls Tryz.prog 64 #[.agg #[.int .i64 y, .int .i64 m, .int .i64 d], .pointer (some ⟨bc, 0, none⟩)] w fun e w' => e = .returned (.bool (Cal.inL c.day d)) ∧ Below w.heap.size w w' := by
  have k3 := hb.c3
  have kl := cell_lt k3
  simp only at kl
  go_enter Tryz.func64, Tryz.ntmps64
  go_wp2_with fail
  refine (isIn_any c.day d _ _ (hp.p3.none.below ((Below.refl _ _).alloc (Nat.le_refl _) _)) ho.o3 h0 (by omega)).mono ?_
  rintro e w' ⟨rfl, hb⟩
  go_wp2_with fail
  go_ret
  exact ⟨rfl, ((Below.refl _ w).alloc (Nat.le_refl _) _).trans (hb.mono (by simp))⟩
/-- What the row of a month's dates has captured. -/
structure DatX (E : Nat → Prop) (W : World) (r gd bx bm bc : Nat) (S : Nat → Sl) (c : Cal.C7) (y m : Int) : Prop where
  cr : Bx E W r (.func (.func 82) #[] #[.pointer (some ⟨bx, 0, none⟩), .pointer (some ⟨bm, 0, none⟩)])
  cg : Bx E W gd (.func (.func 64) #[] #[.pointer (some ⟨bc, 0, none⟩)])
  cy : Bx E W bx (.int .i64 y)
  cm : Bx E W bm (.int .i64 m)
  box : CalBox E W bc S c
  pin : CalPin E W S c
  gl : Gl E W
theorem DatX.mv {E E' : Nat → Prop} {W V : World} {r gd bx bm bc : Nat} {S : Nat → Sl} {c : Cal.C7} {y m' : Int} (h : DatX E W r gd bx bm bc S c y m') (m : Mv E W V) (g : Gr E W E') : DatX E' V r gd bx bm bc S c y m' :=
  ⟨h.cr.mv m g, h.cg.mv m g, h.cy.mv m g, h.cm.mv m g, h.box.mv m g, h.pin.mv m g, h.gl.mv m g⟩
set_option maxRecDepth 100000 in
set_option maxHeartbeats 4000000 in
theorem pickD_row (E : Nat → Prop) (W : World) (r gd bx bm bc : Nat) (S : Nat → Sl) (c : Cal.C7) (y m' : Int) (hb : DatX E W r gd bx bm bc S c y m') (ho : CalOk c) (hv : Civ.monB y m' = true) :
    Row Tryz.prog 81 #[.pointer (some ⟨r, 0, none⟩), .pointer (some ⟨gd, 0, none⟩)] (encD y m') ((Cal.rng 1 (Civ.dim y m')).filter (Cal.inL c.day)) E W := by
  intro l J Jx E1 V m g hJ hJx hY h0
  have dm := Civ.dim_bd y m'
  have hb1 := hb.mv m g
  have cr := hb1.cr.c
  have rl := hb1.cr.lt
  have hlow := hJ.low _ _ _ h0
  refine (callsIn_wide (n := 5)).1 ?_
  refine callsIn_of_wp_marks Tryz.func81 rfl trivial ?_ rfl
  simp only [Tryz.ntmps81, List.size_toArray, List.length_cons, List.length_nil, Nat.reduceAdd, Nat.reduceSub, Array.replicate_succ, Array.replicate_zero, List.push_toArray, List.append_toArray, List.nil_append, List.cons_append]
  gi_wp2
  have mV : Mv E1 V (V.alloc (.cells #[.func (.yield l) #[] #[]] 86)) := Mv.alloc _ _ _
  have cy : (V.alloc (.cells #[.func (.yield l) #[] #[]] 86)).cell? ⟨V.heap.size, 0, none⟩ = some (.func (.yield l) #[] #[]) := by simp
  have hs : (V.alloc (.cells #[.func (.yield l) #[] #[]] 86)).heap.size = V.heap.size + 1 := by simp
  have k0 : J ((Cal.rng 1 (Civ.dim y m')).filter (Cal.inL c.day)) E1 (V.alloc (.cells #[.func (.yield l) #[] #[]] 86)) := hJ.keep _ _ _ _ h0 (Mv.alloc _ _ _)
  revert mV cy hs k0
  generalize V.alloc (.cells #[.func (.yield l) #[] #[]] 86) = W0
  intro mV cy hs k0
  have hb2 := hb1.mv mV (Gr.refl _ _)
  have ey : ¬ E1 V.heap.size := fun h => by have := hlow _ h; omega
  clear cr rl
  have tI : Ter W0.heap.size (fun (rest : List Int) E2 W => (∀ y ∈ rest, 1 ≤ y ∧ y ≤ 31) ∧ J (rest.filter (Cal.inL c.day)) E2 W) := ((hJ.up (by omega)).comp (fun rest => List.filter (Cal.inL c.day) rest)).and _
  refine loop_out (gf := 82) (lb := #[.pointer (some ⟨bx, 0, none⟩), .pointer (some ⟨bm, 0, none⟩)]) rfl (enters_of Tryz.func82 (by kernel_rfl) rfl)
    (month1_row y m' bx bm E1 W0 hv hb2.cy hb2.cm hb2.gl) (fun _ => rfl)
    (fun rest E2 W => (∀ y ∈ rest, 1 ≤ y ∧ y ≤ 31) ∧ J (rest.filter (Cal.inL c.day)) E2 W) (fun c E2 W => c = Code.ret ∧ Jx () E2 W) tI (((hJx.comp (fun _ => ())).up (by omega)).and (fun c => c = Code.ret))
    ⟨fun y hy => by have := (Cal.mem_rng _ _ _).1 hy; omega, k0⟩ ?round ?done ?stop
  case round =>
    intro l1 hl1 x rest E2 U hi hm hg hEl hrec
    have hlt : l1 < U.heap.size := by obtain ⟨r, hr⟩ := hrec; exact (Array.getElem?_eq_some_iff.1 hr).1
    simp only [encD]
    gi_wp2
    refine ⟨⟨Mv.alloc _ _ _, ?_⟩, fun U2 tw => ?_⟩
    · exact Below.heap_alloc _ _ _ hlt
    have low1 := tI.low _ _ _ hi
    obtain ⟨⟨hx, hi2⟩, hm2⟩ := tw.go tI hi (Mv.alloc _ _ _) hm (Nat.le_refl _) hl1 hEl
    have hb3 := hb2.mv hm2 hg
    have cg := hb3.cg.c
    have x0 := hx x (by simp)
    have hxr : ∀ y ∈ rest, 1 ≤ y ∧ y ≤ 31 := fun y hy => hx y (by simp [hy])
    have q0 : U2.cell? ⟨U.heap.size, 0, none⟩ = some (.int .i64 y) := tw.mv.cell (by show ¬ U.heap.size = l1; omega) (cell_at rfl rfl)
    have q1 : U2.cell? ⟨U.heap.size, 1, none⟩ = some (.int .i64 m') := tw.mv.cell (by show ¬ U.heap.size = l1; omega) (cell_at rfl rfl)
    have q2 : U2.cell? ⟨U.heap.size, 2, none⟩ = some (.int .i64 x) := tw.mv.cell (by show ¬ U.heap.size = l1; omega) (cell_at rfl rfl)
    clear hi hm
    cases hin : Cal.inL c.day x
    · have hf : (x :: rest).filter (Cal.inL c.day) = rest.filter (Cal.inL c.day) := by rw [List.filter_cons, hin]; rfl
      rw [hf] at hi2
      gi_wp2_with fail
      refine ⟨trivial, (CallsIn.inRound l1 (callsIn_wide.2 (dayIn_any c y m' x bc S E2 U2 hb3.box hb3.pin ho (by omega) (by omega)))).mono ?_⟩
      rintro e w' ⟨rfl, hbw⟩
      gi_wp2_with fail
      refine ⟨fun _ h => (by cases h), ?_⟩
      gi_wp2_with fail
      exact ⟨Mv.below hbw, E2, Gr.refl _ _, hxr, hJ.keep _ _ _ _ hi2 (Mv.below hbw)⟩
    · have hf : (x :: rest).filter (Cal.inL c.day) = x :: rest.filter (Cal.inL c.day) := by rw [List.filter_cons, hin]; rfl
      rw [hf] at hi2
      gi_wp2_with fail
      refine ⟨trivial, (CallsIn.inRound l1 (callsIn_wide.2 (dayIn_any c y m' x bc S E2 U2 hb3.box hb3.pin ho (by omega) (by omega)))).mono ?_⟩
      rintro e w' ⟨rfl, hbw⟩
      have hj' := hJ.keep _ _ _ _ hi2 (Mv.below hbw)
      have cy' : w'.cell? ⟨V.heap.size, 0, none⟩ = some (.func (.yield l) #[] #[]) := (Mv.below (E := fun _ => False) hbw).cell (fun h => h) (hm2.cell ey cy)
      have p0 := (Mv.below (E := fun _ => False) hbw).cell (fun h => h) q0
      have p1 := (Mv.below (E := fun _ => False) hbw).cell (fun h => h) q1
      have p2 := (Mv.below (E := fun _ => False) hbw).cell (fun h => h) q2
      obtain ⟨fn, tmps, assign, body, hy, hR⟩ := hY x _ E2 w' hj'
      dsimp only [encD] at hy
      gi_wp2_with fail
      refine (wide_round hR).mono ?_
      rintro e W3 ⟨m3, (⟨rfl, E3, g3, hj3⟩ | ⟨rfl, E3, g3, hj3⟩)⟩
      · gi_wp2_with fail
        exact ⟨(Mv.below hbw).trans' m3, E3, g3.mono hbw.size, hxr, hj3⟩
      · gi_wp2_with fail
        exact ⟨(Mv.below hbw).trans' m3, E3, g3.mono hbw.size, rfl, hj3⟩
  case done =>
    intro D E2 U hD hK hnD hm hg hi
    gi_wp2
    refine ⟨by simp, .inl ⟨_, _, rfl, run_takeDeferred hK, ?_⟩⟩
    exact ⟨_, results_none rfl _ _ _, ⟨_, rfl⟩, (mV.trans' hm).put_new (by omega) _, .inl ⟨E2, hg.mono mV.size, hJ.keep _ _ _ _ hi.2 (.put ⟨hnD, by omega⟩ _)⟩⟩
  case stop =>
    rintro D c E2 U hD hK hnD hm hg ⟨rfl, hi⟩
    gi_wp2
    refine ⟨by simp, .inl ⟨_, _, rfl, run_takeDeferred hK, ?_⟩⟩
    exact ⟨_, results_none rfl _ _ _, ⟨_, rfl⟩, (mV.trans' hm).put_new (by omega) _, .inr ⟨E2, hg.mono mV.size, hJx.keep _ _ _ _ hi (.put ⟨hnD, by omega⟩ _)⟩⟩
end Go.Proofs.YtehlnhljpdjppaaGreatDoor
/- The contract of package calendar's daysSince: a row of days. -/
namespace Go.Proofs.YtehlnhljpdjppaaGreatDoor
open Go.RowKit Go.Shelf
attribute [local go_sem] Oper.semAt_some
set_option maxHeartbeats 400000 in
theorem month_any (y m : Int) (w : World) :
    Calls Tryz.prog 63 #[.int .i64 y, .int .i64 m] w fun e w' => e = .returned (.func (.func 82) #[] #[.pointer (some ⟨w.heap.size, 0, none⟩), .pointer (some ⟨w.heap.size + 1, 0, none⟩)]) ∧ w' = (w.alloc (.cells #[.int .i64 y] 3)).alloc (.cells #[.int .i64 m] 3) := by
  go_enter Tryz.func63, Tryz.ntmps63
  go_wp2
  go_ret
  exact ⟨rfl, rfl⟩
set_option maxHeartbeats 400000 in
theorem pickD_any (a b : Nat) (lb lc : Array Value) (w : World) :
    Calls Tryz.prog 62 #[.func (.func a) #[] lb, .func (.func b) #[] lc] w fun e w' => e = .returned (.func (.func 81) #[] #[.pointer (some ⟨w.heap.size, 0, none⟩), .pointer (some ⟨w.heap.size + 1, 0, none⟩)]) ∧ w' = (w.alloc (.cells #[.func (.func a) #[] lb] 104)).alloc (.cells #[.func (.func b) #[] lc] 86) := by
  go_enter Tryz.func62, Tryz.ntmps62
  go_wp2
  go_ret
  exact ⟨rfl, rfl⟩
/-- What daysSince's function holds. -/
structure DayX (E : Nat → Prop) (W : World) (bs bc bf by' l : Nat) (S : Nat → Sl) (c : Cal.C7) (y0 m0 d0 : Int) : Prop where
  box : CalBox E W bc S c
  pin : CalPin E W S c
  gl : Gl E W
  es : ¬ E bs
  s0 : W.cell? ⟨bs, 0, none⟩ = some (.int .i64 y0)
  s1 : W.cell? ⟨bs, 1, none⟩ = some (.int .i64 m0)
  s2 : W.cell? ⟨bs, 2, none⟩ = some (.int .i64 d0)
  fr : Bx E W bf (.int .i64 (Civ.num y0 m0 d0))
  yl : Bx E W by' (.func (.yield l) #[] #[])
theorem DayX.mv {E E' : Nat → Prop} {W V : World} {bs bc bf by' l : Nat} {S : Nat → Sl} {c : Cal.C7} {y0 m0 d0 : Int} (h : DayX E W bs bc bf by' l S c y0 m0 d0) (m : Mv E W V) (g : Gr E W E') : DayX E' V bs bc bf by' l S c y0 m0 d0 :=
  ⟨h.box.mv m g, h.pin.mv m g, h.gl.mv m g, g.free (cell_lt h.s0) h.es, m.cell h.es h.s0, m.cell h.es h.s1, m.cell h.es h.s2, h.fr.mv m g, h.yl.mv m g⟩
theorem datX_new {E : Nat → Prop} {U : World} {bc : Nat} {S : Nat → Sl} {c : Cal.C7} (y m : Int) (hb : CalBox E U bc S c) (hp : CalPin E U S c) (hg : Gl E U) (low : ∀ k, E k → k < U.heap.size) :
    DatX E ((((U.alloc (.cells #[.int .i64 y] 3)).alloc (.cells #[.int .i64 m] 3)).alloc (.cells #[.func (.func 82) #[] #[.pointer (some ⟨U.heap.size, 0, none⟩), .pointer (some ⟨U.heap.size + 1, 0, none⟩)]] 104)).alloc (.cells #[.func (.func 64) #[] #[.pointer (some ⟨bc, 0, none⟩)]] 86)) (U.heap.size + 1 + 1) (U.heap.size + 1 + 1 + 1) U.heap.size (U.heap.size + 1) bc S c y m := by
  have nE : ∀ k, U.heap.size ≤ k → ¬ E k := fun k hk h => by have := low k h; omega
  have mv : Mv E U ((((U.alloc (.cells #[.int .i64 y] 3)).alloc (.cells #[.int .i64 m] 3)).alloc (.cells #[.func (.func 82) #[] #[.pointer (some ⟨U.heap.size, 0, none⟩), .pointer (some ⟨U.heap.size + 1, 0, none⟩)]] 104)).alloc (.cells #[.func (.func 64) #[] #[.pointer (some ⟨bc, 0, none⟩)]] 86)) := (((Mv.alloc _ _ _).trans' (Mv.alloc _ _ _)).trans' (Mv.alloc _ _ _)).trans' (Mv.alloc _ _ _)
  refine ⟨⟨?_, nE _ (by omega)⟩, ⟨?_, nE _ (by omega)⟩, ⟨?_, nE _ (by omega)⟩, ⟨?_, nE _ (by omega)⟩, hb.mv mv (Gr.refl _ _), hp.mv mv (Gr.refl _ _), hg.mv mv (Gr.refl _ _)⟩
  all_goals repeat (first | exact cell_at (by simp) rfl | rw [cell_old (by simp <;> omega)])
theorem datX_ex {E : Nat → Prop} {U : World} {bc : Nat} {S : Nat → Sl} {c : Cal.C7} (y m : Int) (hb : CalBox E U bc S c) (hp : CalPin E U S c) (hg : Gl E U) (low : ∀ k, E k → k < U.heap.size) :
    ∃ w5, ((((U.alloc (.cells #[.int .i64 y] 3)).alloc (.cells #[.int .i64 m] 3)).alloc (.cells #[.func (.func 82) #[] #[.pointer (some ⟨U.heap.size, 0, none⟩), .pointer (some ⟨U.heap.size + 1, 0, none⟩)]] 104)).alloc (.cells #[.func (.func 64) #[] #[.pointer (some ⟨bc, 0, none⟩)]] 86)) = w5 ∧ DatX E w5 (U.heap.size + 1 + 1) (U.heap.size + 1 + 1 + 1) U.heap.size (U.heap.size + 1) bc S c y m ∧ Mv E U w5 ∧ Mv (fun k => ¬ E k ∧ U.heap.size ≤ k) U w5 :=
  ⟨_, rfl, datX_new y m hb hp hg low, (((Mv.alloc _ _ _).trans' (Mv.alloc _ _ _)).trans' (Mv.alloc _ _ _)).trans' (Mv.alloc _ _ _), (((Mv.alloc _ _ _).trans' (Mv.alloc _ _ _)).trans' (Mv.alloc _ _ _)).trans' (Mv.alloc _ _ _)⟩
set_option maxRecDepth 100000 in
set_option maxHeartbeats 8000000 in
theorem day_row (E : Nat → Prop) (W : World) (bs bc : Nat) (S : Nat → Sl) (c : Cal.C7) (y0 m0 d0 : Int) (hbx : CalBox E W bc S c) (hpn : CalPin E W S c) (hgl : Gl E W) (es : ¬ E bs) (s0 : W.cell? ⟨bs, 0, none⟩ = some (.int .i64 y0)) (s1 : W.cell? ⟨bs, 1, none⟩ = some (.int .i64 m0)) (s2 : W.cell? ⟨bs, 2, none⟩ = some (.int .i64 d0)) (ho : CalOk c) (hv : Civ.vldB y0 m0 d0 = true) :
    Row Tryz.prog 60 #[.pointer (some ⟨bs, 0, none⟩), .pointer (some ⟨bc, 0, none⟩)] encI (Cal.ds c y0 m0 d0) E W := by
  obtain ⟨v1, v2, v3, v4, v5, v6⟩ := Civ.vldB_iff.1 hv
  have nb := Civ.num_bd hv
  have hV : Hid (Civ.vldB y0 m0 d0 = true) := hv
  clear hv
  intro l J Jx E1 V m g hJ hJx hY h0
  have hlow := hJ.low _ _ _ h0
  refine (callsIn_wide (n := 5)).1 ?_
  refine callsIn_of_wp_marks Tryz.func60 rfl trivial ?_ rfl
  simp only [Tryz.ntmps60, List.size_toArray, List.length_cons, List.length_nil, Nat.reduceAdd, Nat.reduceSub, Array.replicate_succ, Array.replicate_zero, List.push_toArray, List.append_toArray, List.nil_append, List.cons_append]
  have mA : Mv E1 V (V.alloc (.cells #[.func (.yield l) #[] #[]] 101)) := Mv.alloc _ _ _
  have es1 : ¬ E1 bs := g.free (cell_lt s0) es
  have q0 := mA.cell es1 (m.cell es s0)
  have q1 := mA.cell es1 (m.cell es s1)
  have q2 := mA.cell es1 (m.cell es s2)
  gi_wp2_with fail
  refine ⟨trivial, (callsIn_wide.2 (days_yes y0 m0 d0 _ ((hgl.mv m g).mv mA (Gr.refl _ _)).len hV.out)).mono ?_⟩
  rintro e w1 ⟨rfl, hb1⟩
  have m1 : Mv E1 V w1 := mA.trans' (Mv.below hb1)
  have low1 : ∀ k, E1 k → k < w1.heap.size := fun k hk => Nat.lt_of_lt_of_le (hlow k hk) m1.size
  have mB : Mv E1 V (w1.alloc (.cells #[.int .i64 (Civ.num y0 m0 d0)] 3)) := m1.trans' (Mv.alloc _ _ _)
  have hx0 : DayX E1 (w1.alloc (.cells #[.int .i64 (Civ.num y0 m0 d0)] 3)) bs bc w1.heap.size V.heap.size l S c y0 m0 d0 :=
    ⟨(hbx.mv m g).mv mB (Gr.refl _ _), (hpn.mv m g).mv mB (Gr.refl _ _), (hgl.mv m g).mv mB (Gr.refl _ _), es1, mB.cell es1 (m.cell es s0), mB.cell es1 (m.cell es s1), mB.cell es1 (m.cell es s2), .new _ low1, (Bx.new _ hlow : Bx E1 (V.alloc (.cells #[.func (.yield l) #[] #[]] 101)) V.heap.size (.func (.yield l) #[] #[])).mv ((Mv.below hb1).trans' (Mv.alloc _ _ _)) (Gr.refl _ _)⟩
  clear q0 q1 q2
  have k1 := hx0.box.c1
  have ks := hx0.s0
  have kl := hx0.gl.lim 1 2200 rfl
  gi_wp2_with fail
  refine ⟨trivial, (callsIn_wide.2 (numbers_any c.year _ y0 2200 E1 _ hx0.pin.p1 (fun k hk => by have := low1 k hk; simp; omega) ho.o1 (by omega) (by omega) (by omega) (by omega))).mono ?_⟩
  rintro e w2 ⟨lb, rfl, hb2, hrow1⟩
  gi_wp2_with fail
  have hx1 := hx0.mv (Mv.below hb2) (Gr.refl _ _)
  have m2 : Mv E1 V w2 := mB.trans' (Mv.below hb2)
  have j1 : J (Cal.ds c y0 m0 d0) E1 w2 := hJ.keep _ _ _ _ h0 (((Mv.alloc _ _ _).trans' (Mv.below hb1)).trans' ((Mv.alloc _ _ _).trans' (Mv.below hb2)))
  have sz1 := m2.size
  clear k1 ks kl hx0 hb2 hb1 mA mB m1 low1
  have tX : Ter V.heap.size (fun (c : Code) E2 U => c = Code.ret ∧ Jx () E2 U) := (hJx.comp (fun _ => ())).and (fun c => c = Code.ret)
  have tI1 : Ter w2.heap.size (fun (rest : List Int) E2 U => (∀ h ∈ rest, y0 ≤ h ∧ h ≤ 2200) ∧ J (rest.flatMap fun y => Cal.dsY c (Civ.num y0 m0 d0) (Cal.m1 y0 m0 y) y) E2 U) := ((hJ.up sz1).comp (fun rest => List.flatMap (fun y => Cal.dsY c (Civ.num y0 m0 d0) (Cal.m1 y0 m0 y) y) rest)).and _
  refine loop_out (gf := 89) (lb := lb) rfl (enters_of Tryz.func89 (by kernel_rfl) rfl) hrow1 (fun _ => rfl)
    (fun rest E2 U => (∀ h ∈ rest, y0 ≤ h ∧ h ≤ 2200) ∧ J (rest.flatMap fun y => Cal.dsY c (Civ.num y0 m0 d0) (Cal.m1 y0 m0 y) y) E2 U) (fun c E2 U => c = Code.ret ∧ Jx () E2 U) tI1 (tX.up sz1)
    ⟨fun y hy => by have := (Cal.mem_rng _ _ _).1 (List.mem_filter.1 hy).1; omega, j1⟩ ?round ?done ?stop
  case round =>
    intro l1 hl1 y' rest E2 U hi hm hg hEl hrec
    have hlt : l1 < U.heap.size := by obtain ⟨r, hr⟩ := hrec; exact (Array.getElem?_eq_some_iff.1 hr).1
    simp only [encI]
    gi_wp2
    refine ⟨⟨Mv.alloc _ _ _, ?_⟩, fun U2 tw => ?_⟩
    · exact Below.heap_alloc _ _ _ hlt
    have low1 := tI1.low _ _ _ hi
    obtain ⟨⟨hh, hi2⟩, hm2⟩ := tw.go tI1 hi (Mv.alloc _ _ _) hm (Nat.le_refl _) hl1 hEl
    have hx2 := hx1.mv hm2 hg
    have low2 := hJ.low _ _ _ hi2
    have hr2 := tw.here
    have hh0 := hh y' (by simp)
    have hhr : ∀ y ∈ rest, y0 ≤ y ∧ y ≤ 2200 := fun y hy => hh y (by simp [hy])
    have sz2 := hm2.size
    have hby : Bx E2 U2 U.heap.size (.int .i64 y') := ⟨tw.mv.cell (by show ¬ U.heap.size = l1; omega) (cell_at rfl rfl), fun h => by have := low1 _ h; omega⟩
    rw [List.flatMap_cons] at hi2
    clear hi hm hrec
    have ky := hby.c
    have ks := hx2.s0
    have km := hx2.s1
    have k2 := hx2.box.c2
    have kl := hx2.gl.lim 2 1 rfl
    have kn := hx2.gl.lim 3 12 rfl
    have hm1 : 1 ≤ Cal.m1 y0 m0 y' ∧ Cal.m1 y0 m0 y' ≤ 12 := by unfold Cal.m1; split <;> omega
    have hyy : (y' = y0 ∧ Hid (Cal.m1 y0 m0 y' = m0)) ∨ (¬ y' = y0 ∧ Hid (Cal.m1 y0 m0 y' = 1)) := by
      by_cases h : y' = y0
      · exact .inl ⟨h, by show _ = _; unfold Cal.m1; rw [if_pos h]⟩
      · exact .inr ⟨h, by show _ = _; unfold Cal.m1; rw [if_neg h]⟩
    rcases hyy with ⟨hyc, hm1e⟩ | ⟨hyc, hm1e⟩
    all_goals
      gi_wp2_with fail
      clear hyc
      refine ⟨trivial, (CallsIn.inRound l1 (callsIn_wide.2 (numbers_any c.month _ _ 12 E2 _ hx2.pin.p2 low2 ho.o2 (by omega) (by omega) (by omega) (by omega)))).mono ?_⟩
      rintro e w3 ⟨lb2, rfl, hb2, hrow2⟩
      gi_wp2_with fail
      rw [← hm1e.out] at hrow2
      have m3 : Mv E2 U2 w3 := Mv.below hb2
      have hx3 := hx2.mv m3 (Gr.refl _ _)
      have hby3 := hby.mv m3 (Gr.refl _ _)
      have sz3 := m3.size
      have j2 : J (Cal.dsY c (Civ.num y0 m0 d0) (Cal.m1 y0 m0 y') y' ++ rest.flatMap fun y => Cal.dsY c (Civ.num y0 m0 d0) (Cal.m1 y0 m0 y) y) E2 w3 := hJ.keep _ _ _ _ hi2 (Mv.below hb2)
      have hr3 : ∃ r, w3.heap[l1]? = some (.loop r) := by
        obtain ⟨r, hr⟩ := hr2
        exact ⟨r, (m3.block l1 (Array.getElem?_eq_some_iff.1 hr).1 hEl).trans hr⟩
      clear ky ks km k2 kl kn hb2
      have tI2 : Ter w3.heap.size (fun (rest2 : List Int) E3 U => (∀ h ∈ rest2, 1 ≤ h ∧ h ≤ 12) ∧ J (rest2.flatMap (Cal.dsM c (Civ.num y0 m0 d0) y') ++ rest.flatMap fun y => Cal.dsY c (Civ.num y0 m0 d0) (Cal.m1 y0 m0 y) y) E3 U) := ((hJ.up (by omega)).comp (fun (rest2 : List Int) => rest2.flatMap (Cal.dsM c (Civ.num y0 m0 d0) y') ++ rest.flatMap fun y => Cal.dsY c (Civ.num y0 m0 d0) (Cal.m1 y0 m0 y) y)).and _
      refine loop_in (l₀ := l1) hr3 (gf := 89) (lb := lb2) rfl (enters_of Tryz.func89 (by kernel_rfl) rfl) hrow2 (fun _ => rfl)
        (fun rest2 E3 U => (∀ h ∈ rest2, 1 ≤ h ∧ h ≤ 12) ∧ J (rest2.flatMap (Cal.dsM c (Civ.num y0 m0 d0) y') ++ rest.flatMap fun y => Cal.dsY c (Civ.num y0 m0 d0) (Cal.m1 y0 m0 y) y) E3 U) (fun c E2 U => c = Code.ret ∧ Jx () E2 U) tI2 (tX.up (by omega))
        ⟨fun y hy => by have := (Cal.mem_rng _ _ _).1 (List.mem_filter.1 hy).1; omega, j2⟩ ?_ ?_ ?_
      · intro l2 hl2 mo rest2 E3 U' hi hm hg hEl2 hrec
        simp only [encI]
        gi_wp2
        refine ⟨⟨Mv.refl _ _, trivial⟩, fun U3 tw2 => ?_⟩
        obtain ⟨⟨hmo, hi3⟩, hm3⟩ := tw2.go tI2 hi (Mv.refl _ _) hm (Nat.le_refl _) hl2 hEl2
        have hx4 := hx3.mv hm3 hg
        have hby4 := hby3.mv hm3 hg
        have low3 := hJ.low _ _ _ hi3
        have hr4 := tw2.here
        have hmo0 := hmo mo (by simp)
        have hmr : ∀ y ∈ rest2, 1 ≤ y ∧ y ≤ 12 := fun y hy => hmo y (by simp [hy])
        have sz4 := hm3.size
        rw [List.flatMap_cons, List.append_assoc] at hi3
        clear hi hm hrec
        have ky := hby4.c
        gi_wp2_with fail
        refine ⟨trivial, (CallsIn.inRound l2 (callsIn_wide.2 (month_any y' mo _))).mono ?_⟩
        rintro e w4 ⟨rfl, rfl⟩
        gi_wp2_with fail
        refine ⟨trivial, (CallsIn.inRound l2 (callsIn_wide.2 (pickD_any _ _ _ _ _))).mono ?_⟩
        rintro e w5 ⟨rfl, rfl⟩
        gi_wp2_with fail
        obtain ⟨w5, hw5, hdx, m4, m5⟩ := datX_ex y' mo hx4.box hx4.pin hx4.gl low3
        rw [hw5]
        have hmon : Civ.monB y' mo = true := Civ.monB_iff.2 ⟨by omega, by omega, hmo0.1, hmo0.2⟩
        have hrow3 := pickD_row E3 w5 _ _ _ _ bc S c y' mo hdx ho hmon
        have hx5 := hx4.mv m4 (Gr.refl _ _)
        have sz5 := m4.size
        have dm := Civ.dim_bd y' mo
        have j3 := hJ.keep _ _ _ _ hi3 (m5.mono (fun k _ h => ⟨h.1, by omega⟩))
        have hr5 : ∃ r, w5.heap[l2]? = some (.loop r) := by
          obtain ⟨r, hr⟩ := hr4
          exact ⟨r, (m4.block l2 (Array.getElem?_eq_some_iff.1 hr).1 hEl2).trans hr⟩
        clear hw5 ky hdx m5
        have tI3 : Ter w5.heap.size (fun (rest3 : List Int) E4 U => (∀ h ∈ rest3, 1 ≤ h ∧ h ≤ Civ.dim y' mo) ∧ J ((rest3.map (Civ.num y' mo)).filter (Cal.okD c (Civ.num y0 m0 d0)) ++ (rest2.flatMap (Cal.dsM c (Civ.num y0 m0 d0) y') ++ rest.flatMap fun y => Cal.dsY c (Civ.num y0 m0 d0) (Cal.m1 y0 m0 y) y)) E4 U) := ((hJ.up (by omega)).comp (fun (rest3 : List Int) => (rest3.map (Civ.num y' mo)).filter (Cal.okD c (Civ.num y0 m0 d0)) ++ (rest2.flatMap (Cal.dsM c (Civ.num y0 m0 d0) y') ++ rest.flatMap fun y => Cal.dsY c (Civ.num y0 m0 d0) (Cal.m1 y0 m0 y) y))).and _
        refine loop_in (l₀ := l2) hr5 (gf := 81) (lb := #[.pointer (some ⟨U3.heap.size + 1 + 1, 0, none⟩), .pointer (some ⟨U3.heap.size + 1 + 1 + 1, 0, none⟩)]) rfl (enters_of Tryz.func81 (by kernel_rfl) rfl) hrow3 (fun _ => rfl)
          (fun rest3 E4 U => (∀ h ∈ rest3, 1 ≤ h ∧ h ≤ Civ.dim y' mo) ∧ J ((rest3.map (Civ.num y' mo)).filter (Cal.okD c (Civ.num y0 m0 d0)) ++ (rest2.flatMap (Cal.dsM c (Civ.num y0 m0 d0) y') ++ rest.flatMap fun y => Cal.dsY c (Civ.num y0 m0 d0) (Cal.m1 y0 m0 y) y)) E4 U) (fun c E2 U => c = Code.ret ∧ Jx () E2 U) tI3 (tX.up (by omega))
          ⟨fun y hy => by have := (Cal.mem_rng _ _ _).1 (List.mem_filter.1 hy).1; omega, j3⟩ ?_ ?_ ?_
        · intro l3 hl3 dd rest3 E4 U5 hi hm hg4 hEl3 hrec
          have hlt3 : l3 < U5.heap.size := by obtain ⟨r, hr⟩ := hrec; exact (Array.getElem?_eq_some_iff.1 hr).1
          simp only [encD]
          gi_wp2
          refine ⟨⟨Mv.alloc _ _ _, ?_⟩, fun U6 tw3 => ?_⟩
          · exact Below.heap_alloc _ _ _ hlt3
          have low4 := tI3.low _ _ _ hi
          obtain ⟨⟨hdd, hi4⟩, hm4⟩ := tw3.go tI3 hi (Mv.alloc _ _ _) hm (Nat.le_refl _) hl3 hEl3
          have hx6 := hx5.mv hm4 hg4
          have hdd0 := hdd dd (by simp)
          have hdr : ∀ y ∈ rest3, 1 ≤ y ∧ y ≤ Civ.dim y' mo := fun y hy => hdd y (by simp [hy])
          have hvd : Hid (Civ.vldB y' mo dd = true) := Civ.vldB_iff.2 ⟨by omega, by omega, hmo0.1, hmo0.2, hdd0.1, hdd0.2⟩
          have nb2 := Civ.num_bd hvd.out
          have q0 : U6.cell? ⟨U5.heap.size, 0, none⟩ = some (.int .i64 y') := tw3.mv.cell (by show ¬ U5.heap.size = l3; omega) (cell_at rfl rfl)
          have q1 : U6.cell? ⟨U5.heap.size, 1, none⟩ = some (.int .i64 mo) := tw3.mv.cell (by show ¬ U5.heap.size = l3; omega) (cell_at rfl rfl)
          have q2 : U6.cell? ⟨U5.heap.size, 2, none⟩ = some (.int .i64 dd) := tw3.mv.cell (by show ¬ U5.heap.size = l3; omega) (cell_at rfl rfl)
          rw [List.map_cons] at hi4
          clear hi hm hrec
          gi_wp2_with fail
          refine ⟨trivial, (CallsIn.inRound l3 (callsIn_wide.2 (days_yes y' mo dd _ hx6.gl.len hvd.out))).mono ?_⟩
          rintro e w6 ⟨rfl, hb6⟩
          have m6 : Mv E4 U6 w6 := Mv.below hb6
          have hx7 := hx6.mv m6 (Gr.refl _ _)
          have hj6 := hJ.keep _ _ _ _ hi4 (Mv.below hb6)
          have kf := hx7.fr.c
          have kw := hx7.box.c0
          clear q0 q1 q2
          by_cases hle : Civ.num y0 m0 d0 ≤ Civ.num y' mo dd
          · cases hon : Cal.onW c.week (Civ.num y' mo dd)
            · have hok : Cal.okD c (Civ.num y0 m0 d0) (Civ.num y' mo dd) = false := by unfold Cal.okD; rw [hon, Bool.and_false]
              rw [List.filter_cons, hok] at hj6
              gi_wp2_with fail
              refine ⟨trivial, (CallsIn.inRound l3 (callsIn_wide.2 (onW_any c.week _ _ _ hx7.pin.p0.none ho.o0))).mono ?_⟩
              rintro e w7 ⟨rfl, hb7⟩
              gi_wp2_with fail
              refine ⟨fun _ h => (by cases h), ?_⟩
              gi_wp2_with fail
              exact ⟨m6.trans' (Mv.below hb7), E4, Gr.refl _ _, hdr, hJ.keep _ _ _ _ hj6 (Mv.below hb7)⟩
            · have hok : Cal.okD c (Civ.num y0 m0 d0) (Civ.num y' mo dd) = true := by unfold Cal.okD; rw [hon, Bool.and_true]; exact decide_eq_true hle
              rw [List.filter_cons, hok] at hj6
              gi_wp2_with fail
              refine ⟨trivial, (CallsIn.inRound l3 (callsIn_wide.2 (onW_any c.week _ _ _ hx7.pin.p0.none ho.o0))).mono ?_⟩
              rintro e w7 ⟨rfl, hb7⟩
              have hx8 := hx7.mv (Mv.below hb7) (Gr.refl _ _)
              have kyl := hx8.yl.c
              have hj7 := hJ.keep _ _ _ _ hj6 (Mv.below hb7)
              obtain ⟨fn, tmps, assign, body, hy, hR⟩ := hY _ _ E4 w7 hj7
              dsimp only [encI] at hy
              gi_wp2_with fail
              refine (wide_round hR).mono ?_
              rintro e W3 ⟨m9, (⟨rfl, E5, g5, hj5⟩ | ⟨rfl, E5, g5, hj5⟩)⟩
              · gi_wp2_with fail
                exact ⟨(m6.trans' (Mv.below hb7)).trans' m9, E5, g5.mono (m6.trans' (Mv.below (E := E4) hb7)).size, hdr, hj5⟩
              · gi_wp2_with fail
                exact ⟨(m6.trans' (Mv.below hb7)).trans' m9, E5, g5.mono (m6.trans' (Mv.below (E := E4) hb7)).size, rfl, hj5⟩
          · have hok : Cal.okD c (Civ.num y0 m0 d0) (Civ.num y' mo dd) = false := by unfold Cal.okD; rw [decide_eq_false hle, Bool.false_and]
            rw [List.filter_cons, hok] at hj6
            gi_wp2_with fail
            refine ⟨trivial, ?_⟩
            gi_wp2_with fail
            refine ⟨fun _ h => (by cases h), ?_⟩
            gi_wp2_with fail
            exact ⟨m6, E4, Gr.refl _ _, hdr, hj6⟩
        · intro E4 U' hm hg4 hi
          gi_wp2
          exact ⟨m4.trans' hm, E4, hg4.mono sz5, hmr, hi.2⟩
        · rintro c E4 U' hm hg4 ⟨rfl, hi⟩
          gi_wp2
          exact ⟨m4.trans' hm, E4, hg4.mono sz5, rfl, hi⟩
      · intro E3 U' hm hg hi
        gi_wp2
        exact ⟨m3.trans' hm, E3, hg.mono sz3, hhr, hi.2⟩
      · rintro c E3 U' hm hg ⟨rfl, hi⟩
        gi_wp2
        exact ⟨m3.trans' hm, E3, hg.mono sz3, rfl, hi⟩
  case done =>
    intro D E2 U hD hK hnD hm hg hi
    gi_wp2
    refine ⟨by simp, .inl ⟨_, _, rfl, run_takeDeferred hK, ?_⟩⟩
    exact ⟨_, results_none rfl _ _ _, ⟨_, rfl⟩, (m2.trans' hm).put_new (by omega) _, .inl ⟨E2, hg.mono sz1, hJ.keep _ _ _ _ hi.2 (.put ⟨hnD, by omega⟩ _)⟩⟩
  case stop =>
    rintro D c E2 U hD hK hnD hm hg ⟨rfl, hi⟩
    gi_wp2
    refine ⟨by simp, .inl ⟨_, _, rfl, run_takeDeferred hK, ?_⟩⟩
    exact ⟨_, results_none rfl _ _ _, ⟨_, rfl⟩, (m2.trans' hm).put_new (by omega) _, .inr ⟨E2, hg.mono sz1, hJx.keep _ _ _ _ hi (.put ⟨hnD, by omega⟩ _)⟩⟩
end Go.Proofs.YtehlnhljpdjppaaGreatDoor
/- The contract of package civil's Date. -/
namespace Go.Proofs.YtehlnhljpdjppaaGreatDoor
open Go.RowKit Go.Shelf
attribute [local go_sem] Oper.semAt_some
theorem hide2 {p : Prop} (h : p) : Hid p := h
set_option maxRecDepth 100000 in
set_option maxHeartbeats 1000000 in
theorem date_no (n : Int) (w : World) (h : n < 0 ∨ 84371 ≤ n) :
    Calls Tryz.prog 59 #[.int .i64 n] w fun e w' => e = .returned (.tuple #[.agg #[.int .i64 0, .int .i64 0, .int .i64 0], .int .i64 20]) ∧ Below w.heap.size w w' := by
  have h2 := fun w => ahead_any 2201 w (by omega) (by omega)
  rw [Civ.dby_2201] at h2
  by_cases hn : n < 0
  · clear h2
    go_enter Tryz.func59, Tryz.ntmps59
    go_wp2_with fail
    exact bodyPost_ret (v := .tuple #[.agg #[.int .i64 0, .int .i64 0, .int .i64 0], .int .i64 20]) (by simp [results, Tryz.results59, go_sem]) rfl ⟨rfl, ((Below.refl _ _).alloc (Nat.le_refl _) _).alloc (by simp) _⟩
  · have hg : 84371 ≤ n := by omega
    clear h
    go_enter Tryz.func59, Tryz.ntmps59
    go_wp2_with fail
    refine (h2 _).mono ?_
    rintro e w1 ⟨rfl, rfl⟩
    go_wp2_with fail
    exact bodyPost_ret (v := .tuple #[.agg #[.int .i64 0, .int .i64 0, .int .i64 0], .int .i64 20]) (by simp [results, Tryz.results59, go_sem]) rfl ⟨rfl, ((Below.refl _ _).alloc (Nat.le_refl _) _).alloc (by simp) _⟩
/-- Between two rounds of Date's loop: the two results, the year, what is left. -/
structure DtSt (b : Nat) (y l : Int) (W : World) : Prop where
  c0 : W.cell? ⟨b, 0, none⟩ = some (.int .i64 0)
  c1 : W.cell? ⟨b, 1, none⟩ = some (.int .i64 0)
  c2 : W.cell? ⟨b, 2, none⟩ = some (.int .i64 0)
  f0 : W.frozen? ⟨b, 0, none⟩ = false
  f1 : W.frozen? ⟨b, 1, none⟩ = false
  f2 : W.frozen? ⟨b, 2, none⟩ = false
  e0 : W.cell? ⟨b + 1, 0, none⟩ = some (.int .i64 0)
  fe : W.frozen? ⟨b + 1, 0, none⟩ = false
  cy : W.cell? ⟨b + 1 + 1, 0, none⟩ = some (.int .i64 y)
  cl : W.cell? ⟨b + 1 + 1 + 1, 0, none⟩ = some (.int .i64 l)
  fl : W.frozen? ⟨b + 1 + 1 + 1, 0, none⟩ = false
structure DtEnd (b : Nat) (y m d : Int) (W : World) : Prop where
  c0 : W.cell? ⟨b, 0, none⟩ = some (.int .i64 y)
  c1 : W.cell? ⟨b, 1, none⟩ = some (.int .i64 m)
  c2 : W.cell? ⟨b, 2, none⟩ = some (.int .i64 d)
  e0 : W.cell? ⟨b + 1, 0, none⟩ = some (.int .i64 0)
theorem DtSt.start (w : World) (y l : Int) : DtSt w.heap.size y l (((((w.alloc (.cells #[.int .i64 0, .int .i64 0, .int .i64 0] 26)).alloc (.cells #[.int .i64 0] 35)).alloc (.cells #[.int .i64 y] 3)).alloc (.cells #[.int .i64 l] 3)).alloc (.cells #[.int .i64 y] 3)) := by
  have b0 : (((((w.alloc (.cells #[.int .i64 0, .int .i64 0, .int .i64 0] 26)).alloc (.cells #[.int .i64 0] 35)).alloc (.cells #[.int .i64 y] 3)).alloc (.cells #[.int .i64 l] 3)).alloc (.cells #[.int .i64 y] 3)).heap[w.heap.size]? = some (.cells #[.int .i64 0, .int .i64 0, .int .i64 0] 26) := by
    rw [Below.heap_alloc _ _ _ (by simp <;> omega), Below.heap_alloc _ _ _ (by simp <;> omega), Below.heap_alloc _ _ _ (by simp <;> omega), Below.heap_alloc _ _ _ (by simp), World.alloc_heap_new]
  have b1 : (((((w.alloc (.cells #[.int .i64 0, .int .i64 0, .int .i64 0] 26)).alloc (.cells #[.int .i64 0] 35)).alloc (.cells #[.int .i64 y] 3)).alloc (.cells #[.int .i64 l] 3)).alloc (.cells #[.int .i64 y] 3)).heap[w.heap.size + 1]? = some (.cells #[.int .i64 0] 35) := by
    rw [Below.heap_alloc _ _ _ (by simp <;> omega), Below.heap_alloc _ _ _ (by simp <;> omega), Below.heap_alloc _ _ _ (by simp)]
    have := World.alloc_heap_new (w.alloc (.cells #[.int .i64 0, .int .i64 0, .int .i64 0] 26)) (.cells #[.int .i64 0] 35)
    simpa only [World.size_alloc] using this
  have b2 : (((((w.alloc (.cells #[.int .i64 0, .int .i64 0, .int .i64 0] 26)).alloc (.cells #[.int .i64 0] 35)).alloc (.cells #[.int .i64 y] 3)).alloc (.cells #[.int .i64 l] 3)).alloc (.cells #[.int .i64 y] 3)).heap[w.heap.size + 1 + 1]? = some (.cells #[.int .i64 y] 3) := by
    rw [Below.heap_alloc _ _ _ (by simp <;> omega), Below.heap_alloc _ _ _ (by simp)]
    have := World.alloc_heap_new ((w.alloc (.cells #[.int .i64 0, .int .i64 0, .int .i64 0] 26)).alloc (.cells #[.int .i64 0] 35)) (.cells #[.int .i64 y] 3)
    simpa only [World.size_alloc] using this
  have b3 : (((((w.alloc (.cells #[.int .i64 0, .int .i64 0, .int .i64 0] 26)).alloc (.cells #[.int .i64 0] 35)).alloc (.cells #[.int .i64 y] 3)).alloc (.cells #[.int .i64 l] 3)).alloc (.cells #[.int .i64 y] 3)).heap[w.heap.size + 1 + 1 + 1]? = some (.cells #[.int .i64 l] 3) := by
    rw [Below.heap_alloc _ _ _ (by simp)]
    have := World.alloc_heap_new (((w.alloc (.cells #[.int .i64 0, .int .i64 0, .int .i64 0] 26)).alloc (.cells #[.int .i64 0] 35)).alloc (.cells #[.int .i64 y] 3)) (.cells #[.int .i64 l] 3)
    simpa only [World.size_alloc] using this
  constructor
  · simp only [World.cell?, b0]; rfl
  · simp only [World.cell?, b0]; rfl
  · simp only [World.cell?, b0]; rfl
  · simp only [World.frozen?, b0]; rfl
  · simp only [World.frozen?, b0]; rfl
  · simp only [World.frozen?, b0]; rfl
  · simp only [World.cell?, b1]; rfl
  · simp only [World.frozen?, b1]; rfl
  · simp only [World.cell?, b2]; rfl
  · simp only [World.cell?, b3]; rfl
  · simp only [World.frozen?, b3]; rfl
theorem DtEnd.of {b : Nat} {W : World} {y l m d : Int} (h : DtSt b y l W) :
    DtEnd b y m d ((((W.setCell ⟨b, 0, none⟩ (.int .i64 y)).setCell ⟨b, 1, none⟩ (.int .i64 m)).setCell ⟨b, 2, none⟩ (.int .i64 d)).setCell ⟨b + 1, 0, none⟩ (.int .i64 0)) := by
  have s0 := World.cell?_setCell_same _ _ (.int .i64 y) h.c0
  have s1 := World.cell?_setCell_same (W.setCell ⟨b, 0, none⟩ (.int .i64 y)) _ (.int .i64 m) ((World.cell?_setCell_other _ _ _ _ (by simp)).trans h.c1)
  have s2 := World.cell?_setCell_same ((W.setCell ⟨b, 0, none⟩ (.int .i64 y)).setCell ⟨b, 1, none⟩ (.int .i64 m)) _ (.int .i64 d) ((World.cell?_setCell_other _ _ _ _ (by simp)).trans ((World.cell?_setCell_other _ _ _ _ (by simp)).trans h.c2))
  have s3 := World.cell?_setCell_same (((W.setCell ⟨b, 0, none⟩ (.int .i64 y)).setCell ⟨b, 1, none⟩ (.int .i64 m)).setCell ⟨b, 2, none⟩ (.int .i64 d)) _ (.int .i64 0) ((World.cell?_setCell_other _ _ _ _ (by simp)).trans ((World.cell?_setCell_other _ _ _ _ (by simp)).trans ((World.cell?_setCell_other _ _ _ _ (by simp)).trans h.e0)))
  exact ⟨(World.cell?_setCell_other _ _ _ _ (by simp)).trans ((World.cell?_setCell_other _ _ _ _ (by simp)).trans ((World.cell?_setCell_other _ _ _ _ (by simp)).trans s0)),
    (World.cell?_setCell_other _ _ _ _ (by simp)).trans ((World.cell?_setCell_other _ _ _ _ (by simp)).trans s1), (World.cell?_setCell_other _ _ _ _ (by simp)).trans s2, s3⟩
theorem DtSt.left {b : Nat} {W : World} {y l : Int} (h : DtSt b y l W) (l' : Int) : DtSt b y l' (W.setCell ⟨b + 1 + 1 + 1, 0, none⟩ (.int .i64 l')) := by
  have o : ∀ (k j : Nat), k ≠ b + 1 + 1 + 1 → (W.setCell ⟨b + 1 + 1 + 1, 0, none⟩ (.int .i64 l')).cell? ⟨k, j, none⟩ = W.cell? ⟨k, j, none⟩ := fun k j hk => World.cell?_setCell_other _ _ _ _ (fun e => hk (by cases e; rfl))
  have f : ∀ (k j : Nat), (W.setCell ⟨b + 1 + 1 + 1, 0, none⟩ (.int .i64 l')).frozen? ⟨k, j, none⟩ = W.frozen? ⟨k, j, none⟩ := fun k j => by rw [World.frozen?_setCell]
  exact ⟨(o _ _ (by omega)).trans h.c0, (o _ _ (by omega)).trans h.c1, (o _ _ (by omega)).trans h.c2, (f _ _).trans h.f0, (f _ _).trans h.f1, (f _ _).trans h.f2, (o _ _ (by omega)).trans h.e0, (f _ _).trans h.fe, (o _ _ (by omega)).trans h.cy, World.cell?_setCell_same _ _ _ h.cl, (f _ _).trans h.fl⟩
set_option maxRecDepth 100000 in
set_option maxHeartbeats 4000000 in
theorem date_yes (n : Int) (w : World) (hT : LenIn w) (h0 : 0 ≤ n) (h1 : n < 84371) :
    Calls Tryz.prog 59 #[.int .i64 n] w fun e w' => e = .returned (.tuple #[.agg #[.int .i64 (Civ.dY n), .int .i64 (Civ.dM n), .int .i64 (Civ.dD n)], .int .i64 0]) ∧ Below w.heap.size w w' := by
  obtain ⟨ya, yb, yc, yd⟩ := Civ.yr_spec h0 h1
  have ys := Civ.dby_succ (Civ.yr n)
  have yl := Civ.lp_01 (Civ.yr n)
  obtain ⟨bd0, bd1⟩ := Civ.dby_bd ya (by omega)
  have h2 := fun w => ahead_any 2201 w (by omega) (by omega)
  rw [Civ.dby_2201] at h2
  have hl : Hid (∀ z, Civ.cum (Civ.yr n) z ≤ n - Civ.dby (Civ.yr n) → n - Civ.dby (Civ.yr n) < Civ.cum (Civ.yr n) (z + 1) → Civ.dM n = (z : Int) + 1 ∧ Civ.dD n = n - Civ.dby (Civ.yr n) - Civ.cum (Civ.yr n) z + 1) := by
    intro z z1 z2
    have := Civ.mth_uniq (y := Civ.yr n) (r := n - Civ.dby (Civ.yr n)) (by omega) (by omega) z1 z2
    unfold Civ.dM Civ.dD
    rw [this]
    exact ⟨rfl, rfl⟩
  have hY : Hid (Civ.dY n = Civ.yr n) := rfl
  have l3 := fun w => yearOf_any n w h0 h1
  have hlast : Hid (n - Civ.dby (Civ.yr n) < Civ.cum (Civ.yr n) 12) := by
    show _ < _
    rw [Civ.cum_12]; omega
  generalize hy : Civ.yr n = y at *
  have hy' := hide2 hy
  clear hy ys yl
  have hg : decide (n < 0) = false := by simpa using h0
  have hg' : decide (84371 ≤ n) = false := by simpa using h1
  refine (callsIn_wide (n := 5)).1 ?_
  refine callsIn_of_wp_marks Tryz.func59 rfl trivial ?_ rfl
  simp only [Tryz.ntmps59, List.size_toArray, List.length_cons, List.length_nil, Nat.reduceAdd, Nat.reduceSub, Array.replicate_succ, Array.replicate_zero, List.push_toArray, List.append_toArray, List.nil_append, List.cons_append]
  refine wpIn_wide.2 ?_
  go_wp2_with fail
  refine (h2 _).mono ?_
  rintro e w1 ⟨rfl, rfl⟩
  go_wp2_with fail
  refine (l3 _).mono ?_
  rintro e w1 ⟨rfl, rfl⟩
  go_wp2_with fail
  refine (ahead_any y _ ya (by omega)).mono ?_
  rintro e w1 ⟨rfl, rfl⟩
  go_wp2_with fail
  refine (months_any y _).mono ?_
  rintro e w1 ⟨rfl, rfl⟩
  go_wp2_with fail
  have hst := DtSt.start w y (n - Civ.dby y)
  have hB0 : Below w.heap.size w (((((w.alloc (.cells #[.int .i64 0, .int .i64 0, .int .i64 0] 26)).alloc (.cells #[.int .i64 0] 35)).alloc (.cells #[.int .i64 y] 3)).alloc (.cells #[.int .i64 (n - Civ.dby y)] 3)).alloc (.cells #[.int .i64 y] 3)) :=
    (((((Below.refl _ w).alloc (Nat.le_refl _) _).alloc (by simp) _).alloc (by simp; omega) _).alloc (by simp; omega) _).alloc (by simp; omega) _
  have hs : (((((w.alloc (.cells #[.int .i64 0, .int .i64 0, .int .i64 0] 26)).alloc (.cells #[.int .i64 0] 35)).alloc (.cells #[.int .i64 y] 3)).alloc (.cells #[.int .i64 (n - Civ.dby y)] 3)).alloc (.cells #[.int .i64 y] 3)).heap.size = w.heap.size + 5 := by simp
  have c3 : (((((w.alloc (.cells #[.int .i64 0, .int .i64 0, .int .i64 0] 26)).alloc (.cells #[.int .i64 0] 35)).alloc (.cells #[.int .i64 y] 3)).alloc (.cells #[.int .i64 (n - Civ.dby y)] 3)).alloc (.cells #[.int .i64 y] 3)).cell? ⟨w.heap.size + 1 + 1 + 1 + 1, 0, none⟩ = some (.int .i64 y) := by
    have := (cell_new_l ((((w.alloc (.cells #[.int .i64 0, .int .i64 0, .int .i64 0] 26)).alloc (.cells #[.int .i64 0] 35)).alloc (.cells #[.int .i64 y] 3)).alloc (.cells #[.int .i64 (n - Civ.dby y)] 3)) (.int .i64 y) 3).1
    simp only [World.size_alloc] at this
    exact this
  revert hst hB0 hs c3
  generalize ((((w.alloc (.cells #[.int .i64 0, .int .i64 0, .int .i64 0] 26)).alloc (.cells #[.int .i64 0] 35)).alloc (.cells #[.int .i64 y] 3)).alloc (.cells #[.int .i64 (n - Civ.dby y)] 3)).alloc (.cells #[.int .i64 y] 3) = W0
  intro hst hB0 hs c3
  have hT0 : LenIn W0 := hT.below hT.pos hB0
  have hpos := hT.pos
  refine (wpIn_wide (n := 5)).1 ?_
  refine wpIn_rangeFunc_ownF rfl (by omega) (gf := 71) (lb := #[.pointer (some ⟨w.heap.size + 1 + 1 + 1 + 1, 0, none⟩)]) rfl trivial (enters_of Tryz.func71 (by kernel_rfl) rfl)
    (months_stops (5 - 1) (w.heap.size + 1 + 1 + 1 + 1) y (by omega) (by omega) W0 hT0 (by omega) c3) KpM.trans (KpM.put (by omega) (by omega)) (Below.refl _ _) (fun _ => rfl)
    (fun pre W => (0 ≤ n - Civ.dby y - sumL y pre ∧ DtSt w.heap.size y (n - Civ.dby y - sumL y pre) W) ∧ Below w.heap.size w W)
    (fun c pre W => (c = .ret ∧ ∃ p x, pre = p ++ [x] ∧ 0 ≤ n - Civ.dby y - sumL y p ∧ n - Civ.dby y - sumL y p < Civ.dim y ((x.val : Int) + 1) ∧ DtEnd w.heap.size y ((x.val : Int) + 1) (n - Civ.dby y - sumL y p + 1) W) ∧ Below w.heap.size w W)
    (OwnFrom.and (Own.from (fun s A B row hs hg hr => ⟨hs.1, cell_kept hs.2.c0 hg hr, cell_kept hs.2.c1 hg hr, cell_kept hs.2.c2 hg hr, (frozen_kept hs.2.c0 hg hr).trans hs.2.f0, (frozen_kept hs.2.c1 hg hr).trans hs.2.f1, (frozen_kept hs.2.c2 hg hr).trans hs.2.f2, cell_kept hs.2.e0 hg hr, (frozen_kept hs.2.e0 hg hr).trans hs.2.fe, cell_kept hs.2.cy hg hr, cell_kept hs.2.cl hg hr, (frozen_kept hs.2.cl hg hr).trans hs.2.fl⟩) _) (ownFrom_below (Nat.le_refl _) (by omega)))
    (fun c => OwnFrom.and (Own.from (fun s A B row hs hg hr => ⟨hs.1, by obtain ⟨p, x, e, h1, h2, hc⟩ := hs.2; exact ⟨p, x, e, h1, h2, cell_kept hc.c0 hg hr, cell_kept hc.c1 hg hr, cell_kept hc.c2 hg hr, cell_kept hc.e0 hg hr⟩⟩) _) (ownFrom_below (Nat.le_refl _) (by omega)))
    ⟨⟨by simp [sumL]; omega, by simpa [sumL] using hst⟩, hB0⟩
    (fun x => { tmps := #[.int .i64 n, undef, .pointer (some ⟨w.heap.size, 0, none⟩), .pointer (some ⟨w.heap.size + 1, 0, none⟩), .pointer (some ⟨w.heap.size + 1 + 1, 0, none⟩), .pointer (some ⟨w.heap.size + 1 + 1 + 1, 0, none⟩), .int .i64 ((x.val : Int) + 1), .int .i64 (Civ.dim y ((x.val : Int) + 1)), .int .i64 n, .bool false, .bool false, .int .i64 n, .int .i64 84371, .bool false, .bool false, undef, .int .i64 n, .int .i64 y, .int .i64 n, .int .i64 y, .int .i64 (Civ.dby y), .int .i64 (n - Civ.dby y), .int .i64 y, .func (.func 71) #[] #[.pointer (some ⟨w.heap.size + 1 + 1 + 1 + 1, 0, none⟩)], .int .i64 ((x.val : Int) + 1), .int .i64 (Civ.dim y ((x.val : Int) + 1)), undef, undef, undef, undef, undef, undef, undef, undef, undef, undef, undef, undef], defers := [] }) ?assign ?body ?done ?stop
  case assign =>
    intro l x W K hK
    simp only [mEnc]
    gi_wp2
    exact hK
  case body =>
    rintro l pre x W ⟨⟨hp, hd⟩, hB⟩ hlen
    have sb := sumL_bd y pre
    have xb := Civ.dim_bd y ((x.val : Int) + 1)
    have hd' := hd
    obtain ⟨c0, c1, c2, f0, f1, f2, e0, fe, cy, cl, fl⟩ := hd'
    by_cases hx : n - Civ.dby y - sumL y pre < Civ.dim y ((x.val : Int) + 1)
    · have hp' := hide2 hp
      have hx' := hide2 hx
      gi_wp2
      refine ⟨(((KeepsOthers.setCell _ _ _).trans (KeepsOthers.setCell _ _ _)).trans (KeepsOthers.setCell _ _ _)).trans (KeepsOthers.setCell _ _ _), ⟨rfl, pre, x, rfl, hp'.out, hx'.out, DtEnd.of hd⟩, ?_⟩
      exact (((hB.setCell (p := ⟨w.heap.size, 0, none⟩) (by simp) _).setCell (p := ⟨w.heap.size, 1, none⟩) (by simp) _).setCell (p := ⟨w.heap.size, 2, none⟩) (by simp) _).setCell (p := ⟨w.heap.size + 1, 0, none⟩) (by simp) _
    · have hp' : Hid (0 ≤ n - Civ.dby y - sumL y (pre ++ [x])) := by show _ ≤ _; rw [sumL_snoc]; omega
      have he : Hid (n - Civ.dby y - sumL y pre - Civ.dim y ((x.val : Int) + 1) = n - Civ.dby y - sumL y (pre ++ [x])) := by show _ = _; rw [sumL_snoc]; omega
      gi_wp2
      rw [he.out]
      exact ⟨KeepsOthers.setCell _ _ _, KpM.setCell W (w.heap.size + 1 + 1 + 1) 0 _ (by omega) (by omega), ⟨by have := hp'.out; omega, hd.left _⟩, hB.setCell (p := ⟨w.heap.size + 1 + 1 + 1, 0, none⟩) (by simp; omega) _⟩
  case done =>
    rintro D ys W hD rfl ⟨⟨hp, _⟩, hB⟩ hK
    have e1 := sumL_take y 12 (by omega)
    rw [List.take_of_length_le (by simp)] at e1
    have := hlast.out
    omega
  case stop =>
    rintro D c pre W hD ⟨k, hk, rfl⟩ ⟨⟨rfl, p, x, hpx, z1, z2, hc⟩, hB⟩ hK
    refine (wpIn_wide (n := 5)).2 ?_
    have hp := pre_last hk hpx
    rw [hp, sumL_take y _ (by omega)] at z1 z2 hc
    obtain ⟨e1, e2⟩ := hl.out x.val (by omega) (by rw [Civ.cum_succ]; omega)
    obtain ⟨c0, c1, c2, e0⟩ := hc
    rw [← e1] at c1
    rw [← e2] at c2
    go_wp2
    refine ⟨by simp, .inl ⟨_, _, rfl, run_takeDeferred hK, ?_⟩⟩
    have g0 := cell_kept c0 (grownBy_putObj' _ D (.deferred none)) (fun r e => by cases e; exact ⟨_, hK, rfl⟩)
    have g1 := cell_kept c1 (grownBy_putObj' _ D (.deferred none)) (fun r e => by cases e; exact ⟨_, hK, rfl⟩)
    have g2 := cell_kept c2 (grownBy_putObj' _ D (.deferred none)) (fun r e => by cases e; exact ⟨_, hK, rfl⟩)
    have g3 := cell_kept e0 (grownBy_putObj' _ D (.deferred none)) (fun r e => by cases e; exact ⟨_, hK, rfl⟩)
    refine ⟨.tuple #[.agg #[.int .i64 y, .int .i64 (Civ.dM n), .int .i64 (Civ.dD n)], .int .i64 0], ?_, by rw [hY.out], hB.trans (belowK_b (w := w) (Nat.le_refl _) W D _ _ (by omega) hK rfl rfl)⟩
    simp [results, Tryz.results59, go_sem, g0, g1, g2, g3]
end Go.Proofs.YtehlnhljpdjppaaGreatDoor
/- Contracts of package civil's Unix and Moment. -/
namespace Go.Proofs.YtehlnhljpdjppaaGreatDoor
open Go.RowKit
abbrev momV (y m d h mi s : Int) : Value := .agg #[.int .i64 y, .int .i64 m, .int .i64 d, .int .i64 h, .int .i64 mi, .int .i64 s]
set_option maxRecDepth 100000 in
set_option maxHeartbeats 1000000 in
theorem unix_yes (y m d h mi s : Int) (w : World) (hT : LenIn w) (hv : Civ.vldB y m d = true) (ht : Civ.timB h mi s = true) :
    Calls Tryz.prog 22 #[momV y m d h mi s] w fun e w' => e = .returned (.tuple #[.int .i64 (Civ.sec y m d h mi s), .int .i64 0]) ∧ Below w.heap.size w w' := by
  have hT1 := hT.alloc (.cells #[.int .i64 y, .int .i64 m, .int .i64 d, .int .i64 h, .int .i64 mi, .int .i64 s] 28)
  obtain ⟨n0, n1, _, _⟩ := Civ.num_bd hv
  obtain ⟨a0, a1, a2, a3, a4, a5⟩ := Civ.timB_iff.1 ht
  have hsec : Hid (Civ.sec y m d h mi s = Civ.num y m d * 86400 + (h * 3600 + mi * 60 + s)) := rfl
  go_enter Tryz.func22, Tryz.ntmps22
  go_wp2_with fail
  refine (days_yes y m d _ hT1 hv).mono ?_
  rintro e w1 ⟨rfl, hb1⟩
  have hz1 := hb1.size
  simp at hz1
  have k0 : w1.cell? ⟨w.heap.size, 0, none⟩ = some (.int .i64 y) := by rw [hb1.cell (by simp)]; simp
  have k1 : w1.cell? ⟨w.heap.size, 1, none⟩ = some (.int .i64 m) := by rw [hb1.cell (by simp)]; simp
  have k2 : w1.cell? ⟨w.heap.size, 2, none⟩ = some (.int .i64 d) := by rw [hb1.cell (by simp)]; simp
  have k3 : w1.cell? ⟨w.heap.size, 3, none⟩ = some (.int .i64 h) := by rw [hb1.cell (by simp)]; simp
  have k4 : w1.cell? ⟨w.heap.size, 4, none⟩ = some (.int .i64 mi) := by rw [hb1.cell (by simp)]; simp
  have k5 : w1.cell? ⟨w.heap.size, 5, none⟩ = some (.int .i64 s) := by rw [hb1.cell (by simp)]; simp
  generalize hn : Civ.num y m d = n at *
  go_wp2_with fail
  refine (isTime_any y m d h mi s _).mono ?_
  rintro e w2 ⟨rfl, hb2⟩
  have q3 : w2.cell? ⟨w.heap.size, 3, none⟩ = some (.int .i64 h) := by rw [hb2.cell (by simp; omega)]; exact k3
  have q4 : w2.cell? ⟨w.heap.size, 4, none⟩ = some (.int .i64 mi) := by rw [hb2.cell (by simp; omega)]; exact k4
  have q5 : w2.cell? ⟨w.heap.size, 5, none⟩ = some (.int .i64 s) := by rw [hb2.cell (by simp; omega)]; exact k5
  go_wp2_with fail
  go_ret2
  refine ⟨?_, ((Below.refl _ w).alloc (Nat.le_refl _) _).trans ((hb1.mono (by simp)).trans (hb2.mono (by omega)))⟩
  rw [hsec.out]
  rfl
set_option maxRecDepth 100000 in
set_option maxHeartbeats 1000000 in
theorem unix_no (y m d h mi s : Int) (w : World) (hT : LenIn w) (hv : Civ.vldB y m d = false ∨ Civ.timB h mi s = false) :
    Calls Tryz.prog 22 #[momV y m d h mi s] w fun e w' => e = .returned (.tuple #[.int .i64 0, .int .i64 20]) ∧ Below w.heap.size w w' := by
  have hT1 := hT.alloc (.cells #[.int .i64 y, .int .i64 m, .int .i64 d, .int .i64 h, .int .i64 mi, .int .i64 s] 28)
  cases hv' : Civ.vldB y m d
  · clear hv
    go_enter Tryz.func22, Tryz.ntmps22
    go_wp2_with fail
    refine (days_no y m d _ hT1 hv').mono ?_
    rintro e w1 ⟨rfl, hb1⟩
    go_wp2_with fail
    go_ret2
    exact ⟨rfl, ((Below.refl _ w).alloc (Nat.le_refl _) _).trans (hb1.mono (by simp))⟩
  · have ht : Civ.timB h mi s = false := by
      rcases hv with h | h
      · rw [hv'] at h; cases h
      · exact h
    clear hv
    go_enter Tryz.func22, Tryz.ntmps22
    go_wp2_with fail
    refine (days_yes y m d _ hT1 hv').mono ?_
    rintro e w1 ⟨rfl, hb1⟩
    have hz1 := hb1.size
    simp at hz1
    have k0 : w1.cell? ⟨w.heap.size, 0, none⟩ = some (.int .i64 y) := by rw [hb1.cell (by simp)]; simp
    have k1 : w1.cell? ⟨w.heap.size, 1, none⟩ = some (.int .i64 m) := by rw [hb1.cell (by simp)]; simp
    have k2 : w1.cell? ⟨w.heap.size, 2, none⟩ = some (.int .i64 d) := by rw [hb1.cell (by simp)]; simp
    have k3 : w1.cell? ⟨w.heap.size, 3, none⟩ = some (.int .i64 h) := by rw [hb1.cell (by simp)]; simp
    have k4 : w1.cell? ⟨w.heap.size, 4, none⟩ = some (.int .i64 mi) := by rw [hb1.cell (by simp)]; simp
    have k5 : w1.cell? ⟨w.heap.size, 5, none⟩ = some (.int .i64 s) := by rw [hb1.cell (by simp)]; simp
    go_wp2_with fail
    refine (isTime_any y m d h mi s _).mono ?_
    rintro e w2 ⟨rfl, hb2⟩
    go_wp2_with fail
    go_ret2
    exact ⟨rfl, ((Below.refl _ w).alloc (Nat.le_refl _) _).trans ((hb1.mono (by simp)).trans (hb2.mono (by omega)))⟩
set_option maxRecDepth 100000 in
set_option maxHeartbeats 1000000 in
theorem moment_no (t : Int) (w : World) (h : t < 0 ∨ 7289654400 ≤ t) :
    Calls Tryz.prog 34 #[.int .i64 t] w fun e w' => e = .returned (.tuple #[momV 0 0 0 0 0 0, .int .i64 20]) ∧ Below w.heap.size w w' := by
  have h2 := fun w => ahead_any 2201 w (by omega) (by omega)
  rw [Civ.dby_2201] at h2
  by_cases hn : t < 0
  · clear h2
    go_enter Tryz.func34, Tryz.ntmps34
    go_wp2_with fail
    exact bodyPost_ret (v := .tuple #[momV 0 0 0 0 0 0, .int .i64 20]) (by simp [results, Tryz.results34, go_sem]) rfl ⟨rfl, (Below.refl _ _).alloc (Nat.le_refl _) _⟩
  · have hg : 7289654400 ≤ t := by omega
    clear h
    go_enter Tryz.func34, Tryz.ntmps34
    go_wp2_with fail
    refine (h2 _).mono ?_
    rintro e w1 ⟨rfl, rfl⟩
    go_wp2_with fail
    exact bodyPost_ret (v := .tuple #[momV 0 0 0 0 0 0, .int .i64 20]) (by simp [results, Tryz.results34, go_sem]) rfl ⟨rfl, (Below.refl _ _).alloc (Nat.le_refl _) _⟩
def mH (t : Int) : Int := t % 86400 / 3600
def mMi (t : Int) : Int := t % 86400 / 60 % 60
def mS (t : Int) : Int := t % 60
set_option maxRecDepth 100000 in
set_option maxHeartbeats 1000000 in
theorem moment_yes (t : Int) (w : World) (hT : LenIn w) (h0 : 0 ≤ t) (h1 : t < 7289654400) :
    Calls Tryz.prog 34 #[.int .i64 t] w fun e w' => e = .returned (.tuple #[momV (Civ.dY (t / 86400)) (Civ.dM (t / 86400)) (Civ.dD (t / 86400)) (mH t) (mMi t) (mS t), .int .i64 0]) ∧ Below w.heap.size w w' := by
  have hT1 := hT.alloc (.cells #[.int .i64 0, .int .i64 0, .int .i64 0, .int .i64 0, .int .i64 0, .int .i64 0] 28)
  have h2 := fun w => ahead_any 2201 w (by omega) (by omega)
  rw [Civ.dby_2201] at h2
  have l3 := fun w hT => date_yes (t / 86400) w hT (by omega) (by omega)
  obtain ⟨y, hy⟩ : ∃ y, Civ.dY (t / 86400) = y := ⟨_, rfl⟩
  obtain ⟨m, hm⟩ : ∃ m, Civ.dM (t / 86400) = m := ⟨_, rfl⟩
  obtain ⟨d, hd⟩ : ∃ d, Civ.dD (t / 86400) = d := ⟨_, rfl⟩
  rw [hy, hm, hd] at l3 ⊢
  clear hy hm hd
  have hg : decide (t < 0) = false := by simpa using h0
  have hg' : decide (7289654400 ≤ t) = false := by simpa using h1
  go_enter Tryz.func34, Tryz.ntmps34
  go_wp2_with fail
  refine (h2 _).mono ?_
  rintro e w1 ⟨rfl, rfl⟩
  go_wp2_with fail
  refine (l3 _ hT1).mono ?_
  rintro e w1 ⟨rfl, hb1⟩
  have hz1 := hb1.size
  simp at hz1
  have hz2 : w.heap.size < w1.heap.size := by omega
  obtain ⟨hc, hf⟩ : (∀ b o, b < w.heap.size + 1 → w1.cell? ⟨b, o, none⟩ = (w.alloc (.cells #[.int .i64 0, .int .i64 0, .int .i64 0, .int .i64 0, .int .i64 0, .int .i64 0] 28)).cell? ⟨b, o, none⟩) ∧ (∀ b o, b < w.heap.size + 1 → w1.frozen? ⟨b, o, none⟩ = (w.alloc (.cells #[.int .i64 0, .int .i64 0, .int .i64 0, .int .i64 0, .int .i64 0, .int .i64 0] 28)).frozen? ⟨b, o, none⟩) :=
    ⟨fun b o h => hb1.cell (p := ⟨b, o, none⟩) (by simpa using h), fun b o h => hb1.frozen (p := ⟨b, o, none⟩) (by simpa using h)⟩
  go_wp2_with fail
  refine bodyPost_ret (v := .tuple #[momV y m d (mH t) (mMi t) (mS t), .int .i64 0]) (by simp [results, Tryz.results34, go_sem, hc, hz2, mH, mMi, mS]) rfl ⟨rfl, ?_⟩
  have hB := ((Below.refl _ w).alloc (Nat.le_refl _) (.cells #[.int .i64 0, .int .i64 0, .int .i64 0, .int .i64 0, .int .i64 0, .int .i64 0] 28)).trans (hb1.mono (by simp))
  exact ((((((hB.setCell (p := ⟨w.heap.size, 0, none⟩) (by simp) _).setCell (p := ⟨w.heap.size, 1, none⟩) (by simp) _).setCell (p := ⟨w.heap.size, 2, none⟩) (by simp) _).setCell (p := ⟨w.heap.size, 3, none⟩) (by simp) _).setCell (p := ⟨w.heap.size, 4, none⟩) (by simp) _).setCell (p := ⟨w.heap.size, 5, none⟩) (by simp) _).alloc (by simp; omega) _
end Go.Proofs.YtehlnhljpdjppaaGreatDoor
/- The contract of package calendar's timesAbove: a row of times. -/
namespace Go.Proofs.YtehlnhljpdjppaaGreatDoor
open Go.RowKit Go.Shelf
attribute [local go_sem] Oper.semAt_some
abbrev aggC (S : Nat → Sl) : Value := .agg #[slv (S 0), slv (S 1), slv (S 2), slv (S 3), slv (S 4), slv (S 5), slv (S 6)]
theorem calBox_new {E : Nat → Prop} {U : World} (S : Nat → Sl) (c : Cal.C7) (t : TypeId) (low : ∀ k, E k → k < U.heap.size) :
    CalBox E (U.alloc (.cells #[slv (S 0), slv (S 1), slv (S 2), slv (S 3), slv (S 4), slv (S 5), slv (S 6)] t)) U.heap.size S c :=
  ⟨fun h => by have := low _ h; omega, cell_at rfl rfl, cell_at rfl rfl, cell_at rfl rfl, cell_at rfl rfl, cell_at rfl rfl, cell_at rfl rfl, cell_at rfl rfl⟩
set_option maxHeartbeats 1000000 in
theorem daysSince_any (S : Nat → Sl) (c : Cal.C7) (y m d : Int) (E : Nat → Prop) (w : World) (hp : CalPin E w S c) (hg : Gl E w) (low : ∀ k, E k → k < w.heap.size) (ho : CalOk c) (hv : Civ.vldB y m d = true) :
    Calls Tryz.prog 35 #[aggC S, .agg #[.int .i64 y, .int .i64 m, .int .i64 d]] w fun e w' => ∃ lb, e = .returned (.func (.func 60) #[] lb) ∧ Below w.heap.size w w' ∧ Row Tryz.prog 60 lb encI (Cal.ds c y m d) E w' := by
  go_enter Tryz.func35, Tryz.ntmps35
  go_wp2
  go_ret
  refine ⟨_, rfl, ((Below.refl _ w).alloc (Nat.le_refl _) _).alloc (by simp) _, ?_⟩
  have mv : Mv E w ((w.alloc (.cells #[slv (S 0), slv (S 1), slv (S 2), slv (S 3), slv (S 4), slv (S 5), slv (S 6)] 24)).alloc (.cells #[.int .i64 y, .int .i64 m, .int .i64 d] 26)) := (Mv.alloc _ _ _).trans' (Mv.alloc _ _ _)
  refine day_row E _ _ _ S c y m d ((calBox_new S c _ low).mv (Mv.alloc _ _ _) (Gr.refl _ _)) (hp.mv mv (Gr.refl _ _)) (hg.mv mv (Gr.refl _ _)) (fun h => by have := low _ h; omega) ?_ ?_ ?_ ho hv
  all_goals exact cell_at (by simp) rfl
set_option maxHeartbeats 1000000 in
theorem secondsSince_any (S : Nat → Sl) (c : Cal.C7) (f : Int) (E : Nat → Prop) (w : World) (hp : CalPin E w S c) (hg : Gl E w) (low : ∀ k, E k → k < w.heap.size) (ho : CalOk c) (f0 : 0 ≤ f) (f1 : f ≤ 100000) :
    Calls Tryz.prog 36 #[aggC S, .int .i64 f] w fun e w' => ∃ lb, e = .returned (.func (.func 65) #[] lb) ∧ Below w.heap.size w w' ∧ Row Tryz.prog 65 lb encI (Cal.ss c f) E w' := by
  go_enter Tryz.func36, Tryz.ntmps36
  go_wp2
  go_ret
  refine ⟨_, rfl, ((Below.refl _ w).alloc (Nat.le_refl _) _).alloc (by simp) _, ?_⟩
  have mv : Mv E w ((w.alloc (.cells #[slv (S 0), slv (S 1), slv (S 2), slv (S 3), slv (S 4), slv (S 5), slv (S 6)] 24)).alloc (.cells #[.int .i64 f] 3)) := (Mv.alloc _ _ _).trans' (Mv.alloc _ _ _)
  refine sec_row E _ _ _ S c f ((calBox_new S c _ low).mv (Mv.alloc _ _ _) (Gr.refl _ _)) (hp.mv mv (Gr.refl _ _)) (hg.mv mv (Gr.refl _ _)) ⟨cell_at (by simp) rfl, fun h => by have := low _ h; omega⟩ ho f0 f1
end Go.Proofs.YtehlnhljpdjppaaGreatDoor
/- The row of the times above a time. -/
namespace Go.Proofs.YtehlnhljpdjppaaGreatDoor
open Go.RowKit Go.Shelf
attribute [local go_sem] Oper.semAt_some
/-- What timesAbove's function holds. -/
structure TimX (E : Nat → Prop) (W : World) (bt bc bf by' l : Nat) (S : Nat → Sl) (c : Cal.C7) (f : Int) : Prop where
  box : CalBox E W bc S c
  pin : CalPin E W S c
  gl : Gl E W
  fr : Bx E W bf (.int .i64 f)
  yl : Bx E W by' (.func (.yield l) #[] #[])
theorem TimX.mv {E E' : Nat → Prop} {W V : World} {bt bc bf by' l : Nat} {S : Nat → Sl} {c : Cal.C7} {f : Int} (h : TimX E W bt bc bf by' l S c f) (m : Mv E W V) (g : Gr E W E') : TimX E' V bt bc bf by' l S c f :=
  ⟨h.box.mv m g, h.pin.mv m g, h.gl.mv m g, h.fr.mv m g, h.yl.mv m g⟩
theorem ds_bd {c : Cal.C7} {f : Int} (f0 : 0 ≤ f) (f1 : f < 7289654400) : ∀ d ∈ Cal.ds c (Civ.dY (f / 86400)) (Civ.dM (f / 86400)) (Civ.dD (f / 86400)), f / 86400 ≤ d ∧ d < 84371 := fun d hd => by
  have hv := Civ.date_vld (n := f / 86400) (by omega) (by omega)
  have := (Cal.mem_ds hv).1 hd
  rw [Civ.date_num] at this
  exact ⟨this.1, this.2.1⟩
theorem ss_bd {c : Cal.C7} {f : Int} (f0 : 0 ≤ f) : ∀ s ∈ Cal.ss c f, 0 ≤ s ∧ s < 86400 := fun s hs => by
  have := (Cal.mem_ss f0).1 hs
  omega
set_option maxRecDepth 100000 in
set_option maxHeartbeats 8000000 in
theorem time_no (E : Nat → Prop) (W : World) (bt bc : Nat) (c : Cal.C7) (t : Int) (ht : Bx E W bt (.int .i64 t)) (tmax : t ≤ 9223372036854775807) (hno : 7289654400 ≤ Cal.fromT t) :
    Row Tryz.prog 33 #[.pointer (some ⟨bt, 0, none⟩), .pointer (some ⟨bc, 0, none⟩)] encI (Cal.ts c t) E W := by
  intro l J Jx E1 V m g hJ hJx hY h0
  have he : Cal.ts c t = [] := by unfold Cal.ts; rw [if_neg (by omega)]
  rw [he] at h0
  have kt := (ht.mv m g).c
  have kl := (ht.mv m g).lt
  unfold Cal.fromT at hno
  have tp : 7289654398 < t := by omega
  clear he hno
  by_cases hx : t = 9223372036854775807
  · subst hx
    go_enter Tryz.func33, Tryz.ntmps33
    go_wp2_with fail
    refine (moment_no _ _ (.inl (by decide +kernel))).mono ?_
    rintro e w1 ⟨rfl, hb1⟩
    dsimp only [momV]
    go_wp2_with fail
    refine bodyPost_ret (results_none rfl _ _ _) rfl ?_
    refine ⟨⟨_, rfl⟩, (((Mv.alloc _ _ _).trans' (Mv.alloc _ _ _)).trans' (Mv.below hb1)).trans' (Mv.alloc _ _ _), .inl ⟨E1, Gr.refl _ _, hJ.keep _ _ _ _ h0 ((((Mv.alloc _ _ _).trans' (Mv.alloc _ _ _)).trans' (Mv.below hb1)).trans' (Mv.alloc _ _ _))⟩⟩
  · go_enter Tryz.func33, Tryz.ntmps33
    go_wp2_with fail
    refine (moment_no _ _ (.inr (by omega))).mono ?_
    rintro e w1 ⟨rfl, hb1⟩
    dsimp only [momV]
    go_wp2_with fail
    refine bodyPost_ret (results_none rfl _ _ _) rfl ?_
    refine ⟨⟨_, rfl⟩, (((Mv.alloc _ _ _).trans' (Mv.alloc _ _ _)).trans' (Mv.below hb1)).trans' (Mv.alloc _ _ _), .inl ⟨E1, Gr.refl _ _, hJ.keep _ _ _ _ h0 ((((Mv.alloc _ _ _).trans' (Mv.alloc _ _ _)).trans' (Mv.below hb1)).trans' (Mv.alloc _ _ _))⟩⟩
set_option maxRecDepth 100000 in
set_option maxHeartbeats 8000000 in
theorem time_yes (E : Nat → Prop) (W : World) (bt bc : Nat) (S : Nat → Sl) (c : Cal.C7) (t : Int) (hbx : CalBox E W bc S c) (hpn : CalPin E W S c) (hgl : Gl E W) (ht : Bx E W bt (.int .i64 t)) (ho : CalOk c) (hyes : Cal.fromT t < 7289654400) :
    Row Tryz.prog 33 #[.pointer (some ⟨bt, 0, none⟩), .pointer (some ⟨bc, 0, none⟩)] encI (Cal.ts c t) E W := by
  intro l J Jx E1 V m g hJ hJx hY h0
  have he : Cal.ts c t = Cal.tsF c (Cal.fromT t) := by unfold Cal.ts; rw [if_pos hyes]
  rw [he] at h0
  obtain ⟨f, hf⟩ : ∃ f, Cal.fromT t = f := ⟨_, rfl⟩
  have f0 : 0 ≤ f := by rw [← hf]; unfold Cal.fromT; omega
  have hmx : Hid (f = max t (-1) + 1) := by show _ = _; rw [← hf]; rfl
  rw [hf] at h0 hyes
  have t1 : t < 7289654400 := by have := hmx.out; omega
  have hif : (if t < -1 then (-1 : Int) else t) = f - 1 := by have := hmx.out; split <;> omega
  clear he hf
  have hlow := hJ.low _ _ _ h0
  have kt0 := (ht.mv m g)
  have kt := (kt0.mv (Mv.alloc _ _ (.cells #[.func (.yield l) #[] #[]] 69)) (Gr.refl _ _)).c
  have hv := Civ.date_vld (n := f / 86400) (by omega) (by omega)
  refine (callsIn_wide (n := 5)).1 ?_
  refine callsIn_of_wp_marks Tryz.func33 rfl trivial ?_ rfl
  simp only [Tryz.ntmps33, List.size_toArray, List.length_cons, List.length_nil, Nat.reduceAdd, Nat.reduceSub, Array.replicate_succ, Array.replicate_zero, List.push_toArray, List.append_toArray, List.nil_append, List.cons_append]
  gi_wp2_with fail
  have mA : Mv E1 V ((V.alloc (.cells #[.func (.yield l) #[] #[]] 69)).alloc (.cells #[.int .i64 f] 2)) := (Mv.alloc _ _ _).trans' (Mv.alloc _ _ _)
  refine ⟨trivial, (callsIn_wide.2 (moment_yes f _ ((hgl.mv m g).mv mA (Gr.refl _ _)).len f0 hyes)).mono ?_⟩
  rintro e w1 ⟨rfl, hb1⟩
  have hv1 : Hid (Civ.vldB (Civ.dY (f / 86400)) (Civ.dM (f / 86400)) (Civ.dD (f / 86400)) = true) := hv
  clear hv hif kt
  have hdsb := ds_bd (c := c) f0 hyes
  have h0' : J ((Cal.ds c (Civ.dY (f / 86400)) (Civ.dM (f / 86400)) (Civ.dD (f / 86400))).flatMap (Cal.tsD c f)) E1 V := h0
  clear h0
  revert hv1 hdsb h0'
  generalize Civ.dY (f / 86400) = y0
  generalize Civ.dM (f / 86400) = m0
  generalize Civ.dD (f / 86400) = d0
  generalize mH f = q3
  generalize mMi f = q4
  generalize mS f = q5
  intro hv1 hdsb h0
  dsimp only [momV]
  have m1 : Mv E1 V (w1.alloc (.cells #[.int .i64 y0, .int .i64 m0, .int .i64 d0, .int .i64 q3, .int .i64 q4, .int .i64 q5] 28)) := (mA.trans' (Mv.below hb1)).trans' (Mv.alloc _ _ _)
  have hx0 : TimX E1 (w1.alloc (.cells #[.int .i64 y0, .int .i64 m0, .int .i64 d0, .int .i64 q3, .int .i64 q4, .int .i64 q5] 28)) bt bc (V.heap.size + 1) V.heap.size l S c f := by
    have hA : Bx E1 ((V.alloc (.cells #[.func (.yield l) #[] #[]] 69)).alloc (.cells #[.int .i64 f] 2)) (V.heap.size + 1) (.int .i64 f) := ⟨cell_at (by simp) rfl, fun h => by have := hlow _ h; omega⟩
    have hB : Bx E1 ((V.alloc (.cells #[.func (.yield l) #[] #[]] 69)).alloc (.cells #[.int .i64 f] 2)) V.heap.size (.func (.yield l) #[] #[]) := (Bx.new _ hlow).mv (Mv.alloc _ _ _) (Gr.refl _ _)
    exact ⟨(hbx.mv m g).mv m1 (Gr.refl _ _), (hpn.mv m g).mv m1 (Gr.refl _ _), (hgl.mv m g).mv m1 (Gr.refl _ _), hA.mv ((Mv.below hb1).trans' (Mv.alloc _ _ _)) (Gr.refl _ _), hB.mv ((Mv.below hb1).trans' (Mv.alloc _ _ _)) (Gr.refl _ _)⟩
  have j0 : J ((Cal.ds c y0 m0 d0).flatMap (Cal.tsD c f)) E1 (w1.alloc (.cells #[.int .i64 y0, .int .i64 m0, .int .i64 d0, .int .i64 q3, .int .i64 q4, .int .i64 q5] 28)) := hJ.keep _ _ _ _ h0 ((((Mv.alloc _ _ _).trans' (Mv.alloc _ _ _)).trans' (Mv.below hb1)).trans' (Mv.alloc _ _ _))
  have k0 := hx0.box.c0
  have k1 := hx0.box.c1
  have k2 := hx0.box.c2
  have k3 := hx0.box.c3
  have k4 := hx0.box.c4
  have k5 := hx0.box.c5
  have k6 := hx0.box.c6
  gi_wp2_with fail
  refine ⟨trivial, (callsIn_wide.2 (daysSince_any S c y0 m0 d0 E1 _ hx0.pin hx0.gl (fun k hk => by have := hlow k hk; have := m1.size; simp at this ⊢; omega) ho hv1.out)).mono ?_⟩
  rintro e w2 ⟨lb, rfl, hb2, hrow1⟩
  gi_wp2_with fail
  have hx1 := hx0.mv (Mv.below hb2) (Gr.refl _ _)
  have m2 : Mv E1 V w2 := m1.trans' (Mv.below hb2)
  have j1 : J ((Cal.ds c y0 m0 d0).flatMap (Cal.tsD c f)) E1 w2 := hJ.keep _ _ _ _ j0 (Mv.below hb2)
  have sz1 := m2.size
  clear k0 k1 k2 k3 k4 k5 k6 hx0 hb2 hb1 mA m1 j0
  have tX : Ter V.heap.size (fun (c : Code) E2 U => c = Code.ret ∧ Jx () E2 U) := (hJx.comp (fun _ => ())).and (fun c => c = Code.ret)
  have tI1 : Ter w2.heap.size (fun (rest : List Int) E2 U => (∀ h ∈ rest, f / 86400 ≤ h ∧ h < 84371) ∧ J (rest.flatMap (Cal.tsD c f)) E2 U) := ((hJ.up sz1).comp (fun rest => List.flatMap (Cal.tsD c f) rest)).and _
  refine loop_out (gf := 60) (lb := lb) rfl (enters_of Tryz.func60 (by kernel_rfl) rfl) hrow1 (fun _ => rfl)
    (fun rest E2 U => (∀ h ∈ rest, f / 86400 ≤ h ∧ h < 84371) ∧ J (rest.flatMap (Cal.tsD c f)) E2 U) (fun c E2 U => c = Code.ret ∧ Jx () E2 U) tI1 (tX.up sz1)
    ⟨hdsb, j1⟩ ?round ?done ?stop
  case round =>
    intro l1 hl1 d' rest E2 U hi hm hg hEl hrec
    simp only [encI]
    gi_wp2
    refine ⟨⟨Mv.refl _ _, trivial⟩, fun U2 tw => ?_⟩
    obtain ⟨⟨hh, hi2⟩, hm2⟩ := tw.go tI1 hi (Mv.refl _ _) hm (Nat.le_refl _) hl1 hEl
    have hx2 := hx1.mv hm2 hg
    have low2 := hJ.low _ _ _ hi2
    have hr2 := tw.here
    have hh0 := hh d' (by simp)
    have hhr : ∀ y ∈ rest, f / 86400 ≤ y ∧ y < 84371 := fun y hy => hh y (by simp [hy])
    have sz2 := hm2.size
    rw [List.flatMap_cons] at hi2
    clear hi hm hrec
    have hx3 : TimX E2 (U2.alloc (.cells #[.int .i64 (d' * 86400)] 2)) bt bc (V.heap.size + 1) V.heap.size l S c f := hx2.mv (Mv.alloc _ _ _) (Gr.refl _ _)
    have hbm : Bx E2 (U2.alloc (.cells #[.int .i64 (d' * 86400)] 2)) U2.heap.size (.int .i64 (d' * 86400)) := .new _ low2
    have k0 := hx3.box.c0
    have k1 := hx3.box.c1
    have k2 := hx3.box.c2
    have k3 := hx3.box.c3
    have k4 := hx3.box.c4
    have k5 := hx3.box.c5
    have k6 := hx3.box.c6
    have kf := hx3.fr.c
    have km := hbm.c
    obtain ⟨g', hg'⟩ : ∃ g', max (f - d' * 86400) 0 = g' := ⟨_, rfl⟩
    have hif : (if f - d' * 86400 < 0 then (0 : Int) else f - d' * 86400) = g' := by rw [← hg']; split <;> omega
    have g0 : 0 ≤ g' := by omega
    have g1 : g' ≤ 86400 := by omega
    have htD : Hid (Cal.tsD c f d' = (Cal.ss c g').map (d' * 86400 + ·)) := by show _ = _; unfold Cal.tsD; rw [hg']
    clear hg'
    gi_wp2_with fail
    refine ⟨trivial, (CallsIn.inRound l1 (callsIn_wide.2 (secondsSince_any S c g' E2 _ hx3.pin hx3.gl (fun k hk => by have := low2 k hk; simp; omega) ho g0 (by omega)))).mono ?_⟩
    rintro e w3 ⟨lb2, rfl, hb3, hrow2⟩
    gi_wp2_with fail
    have m3 : Mv E2 U2 w3 := (Mv.alloc _ _ _).trans' (Mv.below hb3)
    have hx4 := hx3.mv (Mv.below hb3) (Gr.refl _ _)
    have hbm4 := hbm.mv (Mv.below hb3) (Gr.refl _ _)
    have sz3 := m3.size
    have j2 : J ((Cal.ss c g').map (d' * 86400 + ·) ++ rest.flatMap (Cal.tsD c f)) E2 w3 := by
      rw [← htD.out]
      exact hJ.keep _ _ _ _ hi2 ((Mv.alloc _ _ _).trans' (Mv.below hb3))
    have hr4 : ∃ r, w3.heap[l1]? = some (.loop r) := by
      obtain ⟨r, hr⟩ := hr2
      exact ⟨r, (m3.block l1 (Array.getElem?_eq_some_iff.1 hr).1 hEl).trans hr⟩
    clear k0 k1 k2 k3 k4 k5 k6 kf km hx3 hb3 hif
    have tI2 : Ter w3.heap.size (fun (rest2 : List Int) E3 U => (∀ h ∈ rest2, 0 ≤ h ∧ h < 86400) ∧ J (rest2.map (d' * 86400 + ·) ++ rest.flatMap (Cal.tsD c f)) E3 U) := ((hJ.up (by omega)).comp (fun (rest2 : List Int) => rest2.map (d' * 86400 + ·) ++ rest.flatMap (Cal.tsD c f))).and _
    refine loop_in (l₀ := l1) hr4 (gf := 65) (lb := lb2) rfl (enters_of Tryz.func65 (by kernel_rfl) rfl) hrow2 (fun _ => rfl)
      (fun rest2 E3 U => (∀ h ∈ rest2, 0 ≤ h ∧ h < 86400) ∧ J (rest2.map (d' * 86400 + ·) ++ rest.flatMap (Cal.tsD c f)) E3 U) (fun c E2 U => c = Code.ret ∧ Jx () E2 U) tI2 (tX.up (by omega))
      ⟨ss_bd g0, j2⟩ ?_ ?_ ?_
    · intro l2 hl2 sc rest2 E3 U' hi hm hg3 hEl2 hrec
      simp only [encI]
      gi_wp2
      refine ⟨⟨Mv.refl _ _, trivial⟩, fun U3 tw2 => ?_⟩
      obtain ⟨⟨hsc, hi3⟩, hm3⟩ := tw2.go tI2 hi (Mv.refl _ _) hm (Nat.le_refl _) hl2 hEl2
      have hx5 := hx4.mv hm3 hg3
      have hbm5 := hbm4.mv hm3 hg3
      have hsc0 := hsc sc (by simp)
      have hsr : ∀ y ∈ rest2, 0 ≤ y ∧ y < 86400 := fun y hy => hsc y (by simp [hy])
      rw [List.map_cons, List.cons_append] at hi3
      clear hi hm hrec
      have ky := hx5.yl.c
      have km := hbm5.c
      obtain ⟨fn, tmps, assign, body, hy, hR⟩ := hY _ _ E3 U3 hi3
      dsimp only [encI] at hy
      gi_wp2_with fail
      refine (wide_round hR).mono ?_
      rintro e W3 ⟨m9, (⟨rfl, E5, g5, hj5⟩ | ⟨rfl, E5, g5, hj5⟩)⟩
      · gi_wp2_with fail
        exact ⟨m9, E5, g5, hsr, hj5⟩
      · gi_wp2_with fail
        exact ⟨m9, E5, g5, rfl, hj5⟩
    · intro E3 U' hm hg3 hi
      gi_wp2
      exact ⟨m3.trans' hm, E3, hg3.mono sz3, hhr, hi.2⟩
    · rintro c E3 U' hm hg3 ⟨rfl, hi⟩
      gi_wp2
      exact ⟨m3.trans' hm, E3, hg3.mono sz3, rfl, hi⟩
  case done =>
    intro D E2 U hD hK hnD hm hg hi
    gi_wp2
    refine ⟨by simp, .inl ⟨_, _, rfl, run_takeDeferred hK, ?_⟩⟩
    exact ⟨_, results_none rfl _ _ _, ⟨_, rfl⟩, (m2.trans' hm).put_new (by omega) _, .inl ⟨E2, hg.mono sz1, hJ.keep _ _ _ _ hi.2 (.put ⟨hnD, by omega⟩ _)⟩⟩
  case stop =>
    rintro D c E2 U hD hK hnD hm hg ⟨rfl, hi⟩
    gi_wp2
    refine ⟨by simp, .inl ⟨_, _, rfl, run_takeDeferred hK, ?_⟩⟩
    exact ⟨_, results_none rfl _ _ _, ⟨_, rfl⟩, (m2.trans' hm).put_new (by omega) _, .inr ⟨E2, hg.mono sz1, hJx.keep _ _ _ _ hi (.put ⟨hnD, by omega⟩ _)⟩⟩
theorem time_row (E : Nat → Prop) (W : World) (bt bc : Nat) (S : Nat → Sl) (c : Cal.C7) (t : Int) (hbx : CalBox E W bc S c) (hpn : CalPin E W S c) (hgl : Gl E W) (ht : Bx E W bt (.int .i64 t)) (ho : CalOk c) (tmax : t ≤ 9223372036854775807) :
    Row Tryz.prog 33 #[.pointer (some ⟨bt, 0, none⟩), .pointer (some ⟨bc, 0, none⟩)] encI (Cal.ts c t) E W := by
  by_cases h : Cal.fromT t < 7289654400
  · exact time_yes E W bt bc S c t hbx hpn hgl ht ho h
  · exact time_no E W bt bc c t ht tmax (by omega)
end Go.Proofs.YtehlnhljpdjppaaGreatDoor
/- Contracts of package calendar's timesAbove and first. -/
namespace Go.Proofs.YtehlnhljpdjppaaGreatDoor
open Go.RowKit Go.Shelf
attribute [local go_sem] Oper.semAt_some
theorem Mv.setCell {E : Nat → Prop} {W : World} {b : Nat} (h : E b) (v : Value) : Mv E W (W.setCell ⟨b, 0, none⟩ v) :=
  let hg := grownBy_setCell' W b v
  ⟨hg.os, hg.tape, hg.output, hg.size, fun k hk he => hg.block k hk (fun e => by cases e; exact he h)⟩
set_option maxHeartbeats 1000000 in
theorem timesAbove_any (S : Nat → Sl) (c : Cal.C7) (t : Int) (E : Nat → Prop) (w : World) (hp : CalPin E w S c) (hg : Gl E w) (low : ∀ k, E k → k < w.heap.size) (ho : CalOk c) (tmax : t ≤ 9223372036854775807) :
    Calls Tryz.prog 14 #[aggC S, .int .i64 t] w fun e w' => ∃ lb, e = .returned (.func (.func 33) #[] lb) ∧ Below w.heap.size w w' ∧ Row Tryz.prog 33 lb encI (Cal.ts c t) E w' := by
  go_enter Tryz.func14, Tryz.ntmps14
  go_wp2
  go_ret
  refine ⟨_, rfl, ((Below.refl _ w).alloc (Nat.le_refl _) _).alloc (by simp) _, ?_⟩
  have mv : Mv E w ((w.alloc (.cells #[slv (S 0), slv (S 1), slv (S 2), slv (S 3), slv (S 4), slv (S 5), slv (S 6)] 24)).alloc (.cells #[.int .i64 t] 2)) := (Mv.alloc _ _ _).trans' (Mv.alloc _ _ _)
  refine time_row E _ _ _ S c t ((calBox_new S c _ low).mv (Mv.alloc _ _ _) (Gr.refl _ _)) (hp.mv mv (Gr.refl _ _)) (hg.mv mv (Gr.refl _ _)) ⟨cell_at (by simp) rfl, fun h => by have := low _ h; omega⟩ ho tmax
/-- The two results of 'first'. -/
structure FirB (s : Nat) (x : Int) (b : Bool) (W : World) : Prop where
  c0 : W.cell? ⟨s, 0, none⟩ = some (.int .i64 x)
  c1 : W.cell? ⟨s + 1, 0, none⟩ = some (.bool b)
  f0 : W.frozen? ⟨s, 0, none⟩ = false
  f1 : W.frozen? ⟨s + 1, 0, none⟩ = false
theorem FirB.keep {s : Nat} {x : Int} {b : Bool} {W V : World} (h : FirB s x b W) (h0 : V.heap[s]? = W.heap[s]?) (h1 : V.heap[s + 1]? = W.heap[s + 1]?) : FirB s x b V :=
  ⟨(World.cell?_of_block (a := ⟨s, 0, none⟩) h0).trans h.c0, (World.cell?_of_block (a := ⟨s + 1, 0, none⟩) h1).trans h.c1, (World.frozen?_of_block (a := ⟨s, 0, none⟩) h0).trans h.f0, (World.frozen?_of_block (a := ⟨s + 1, 0, none⟩) h1).trans h.f1⟩
theorem FirB.ter {β : Type} (B s : Nat) (p : β → Prop) (x : β → Int) (b : β → Bool) : Ter B (fun (q : β) E W => (p q ∧ ∀ k, E k ↔ (k = s ∨ k = s + 1)) ∧ FirB s (x q) (b q) W) :=
  ⟨fun q E W V h m => ⟨h.1, h.2.keep (m.block s (cell_lt h.2.c0) (fun hh => hh.1 ((h.1.2 s).2 (.inl rfl)))) (m.block (s + 1) (cell_lt h.2.c1) (fun hh => hh.1 ((h.1.2 (s + 1)).2 (.inr rfl))))⟩,
   fun q E W h k hk => by
    rcases (h.1.2 k).1 hk with rfl | rfl
    · exact cell_lt h.2.c0
    · exact cell_lt h.2.c1⟩
theorem FirB.set {s : Nat} {x : Int} {b : Bool} {W : World} (h : FirB s x b W) (x' : Int) (b' : Bool) : FirB s x' b' ((W.setCell ⟨s, 0, none⟩ (.int .i64 x')).setCell ⟨s + 1, 0, none⟩ (.bool b')) := by
  have n1 : (⟨s, 0, none⟩ : Addr) ≠ ⟨s + 1, 0, none⟩ := fun e => by cases e
  refine ⟨?_, ?_, ?_, ?_⟩
  · rw [World.cell?_setCell_other _ _ _ _ (fun e => by simp at e)]
    exact World.cell?_setCell_same' _ _ _ (by rw [h.c0]; rfl)
  · exact World.cell?_setCell_same' _ _ _ (by rw [World.cell?_setCell_other _ _ _ _ (fun e => by simp at e), h.c1]; rfl)
  · rw [World.frozen?_setCell, World.frozen?_setCell]; exact h.f0
  · rw [World.frozen?_setCell, World.frozen?_setCell]; exact h.f1
set_option maxRecDepth 100000 in
set_option maxHeartbeats 4000000 in
theorem first_any (lb : Array Value) (xs : List Int) (w : World) (hrow : Row Tryz.prog 33 lb encI xs (fun _ => False) w) :
    Calls Tryz.prog 13 #[.func (.func 33) #[] lb] w fun e w' => e = .returned (.tuple #[.int .i64 (xs.head?.getD 0), .bool xs.head?.isSome]) ∧ Below w.heap.size w w' := by
  refine (callsIn_wide (n := 5)).1 ?_
  refine callsIn_of_wp_marks Tryz.func13 rfl trivial ?_ rfl
  simp only [Tryz.ntmps13, List.size_toArray, List.length_cons, List.length_nil, Nat.reduceAdd, Nat.reduceSub, Array.replicate_succ, Array.replicate_zero, List.push_toArray, List.append_toArray, List.nil_append, List.cons_append]
  gi_wp2_with fail
  have mB : Below w.heap.size w ((w.alloc (.cells #[.int .i64 0] 2)).alloc (.cells #[.bool false] 4)) := ((Below.refl _ w).alloc (Nat.le_refl _) _).alloc (by simp) _
  have hrow1 : Row Tryz.prog 33 lb encI xs (fun k => k = w.heap.size ∨ k = w.heap.size + 1) ((w.alloc (.cells #[.int .i64 0] 2)).alloc (.cells #[.bool false] 4)) := hrow.later (Mv.below mB) (fun k hk => .inr (by omega))
  have hB : FirB w.heap.size 0 false ((w.alloc (.cells #[.int .i64 0] 2)).alloc (.cells #[.bool false] 4)) := by
    refine ⟨by rw [cell_old (by simp)]; exact cell_at rfl rfl, cell_at (by simp) rfl, ?_, ?_⟩
    · rw [World.frozen?_of_block (Below.heap_alloc _ _ _ (by simp))]; exact World.frozen?_alloc_new _ _ _ _
    · have := World.frozen?_alloc_new (w.alloc (.cells #[.int .i64 0] 2)) #[.bool false] 4 0
      rw [World.size_alloc] at this; exact this
  have hs : ((w.alloc (.cells #[.int .i64 0] 2)).alloc (.cells #[.bool false] 4)).heap.size = w.heap.size + 2 := by simp
  revert mB hrow1 hB hs
  generalize (w.alloc (.cells #[.int .i64 0] 2)).alloc (.cells #[.bool false] 4) = W0
  intro mB hrow1 hB hs
  have tI := FirB.ter (β := List Int) W0.heap.size w.heap.size (fun rest => rest = xs) (fun _ => 0) (fun _ => false)
  have tX := FirB.ter (β := Code) W0.heap.size w.heap.size (fun c => c = Code.ret ∧ xs ≠ []) (fun _ => xs.head?.getD 0) (fun _ => true)
  refine loop_out (gf := 33) (lb := lb) rfl (enters_of Tryz.func33 (by kernel_rfl) rfl) hrow1 (fun _ => rfl) _ _ tI tX ⟨⟨rfl, fun _ => Iff.rfl⟩, hB⟩ ?round ?done ?stop
  case round =>
    rintro l1 hl1 x rest E2 U hi hm hg hEl hrec
    simp only [encI]
    gi_wp2
    refine ⟨⟨Mv.refl _ _, trivial⟩, fun U2 tw => ?_⟩
    obtain ⟨⟨⟨rfl, hE⟩, hb2⟩, hm2⟩ := tw.go tI hi (Mv.refl _ _) hm (Nat.le_refl _) hl1 hEl
    have k0 := hb2.c0
    have k1 := hb2.c1
    have k2 := hb2.f0
    have k3 := hb2.f1
    clear hi hm hrec
    gi_wp2_with fail
    exact ⟨(Mv.setCell ((hE _).2 (.inl rfl)) _).trans' (Mv.setCell ((hE _).2 (.inr rfl)) _), E2, Gr.refl _ _, ⟨⟨rfl, by simp⟩, hE⟩, hb2.set x true⟩
  case done =>
    rintro D E2 U hD hK hnD hm hg ⟨⟨rfl, hE⟩, hb2⟩
    have k0 := hb2.c0
    have k1 := hb2.c1
    have k2 := hb2.f0
    have k3 := hb2.f1
    gi_wp2_with fail
    have hK2 := (KeepsOthers.setCell (U.setCell ⟨w.heap.size, 0, none⟩ (.int .i64 0)) ⟨w.heap.size + 1, 0, none⟩ (.bool false)).same D _ ((KeepsOthers.setCell U ⟨w.heap.size, 0, none⟩ (.int .i64 0)).same D _ hK rfl) rfl
    have hb3 := hb2.set 0 false
    have mS : Mv E2 U ((U.setCell ⟨w.heap.size, 0, none⟩ (.int .i64 0)).setCell ⟨w.heap.size + 1, 0, none⟩ (.bool false)) := (Mv.setCell ((hE _).2 (.inl rfl)) _).trans' (Mv.setCell ((hE _).2 (.inr rfl)) _)
    refine ⟨by simp, .inl ⟨_, _, rfl, run_takeDeferred hK2, ?_⟩⟩
    have g0 := cell_kept hb3.c0 (grownBy_putObj' _ D (.deferred none)) (fun r e => by cases e; exact ⟨_, hK2, rfl⟩)
    have g1 := cell_kept hb3.c1 (grownBy_putObj' _ D (.deferred none)) (fun r e => by cases e; exact ⟨_, hK2, rfl⟩)
    refine ⟨.tuple #[.int .i64 0, .bool false], ?_, rfl, ?_⟩
    · simp [results, Tryz.results13, go_sem, g0, g1]
    · exact mB.trans (((hm.trans hg mS).put_new (l := D) (by omega) _).toBelow (by omega) (fun k hk h => by omega))
  case stop =>
    rintro D c E2 U hD hK hnD hm hg ⟨⟨⟨rfl, hne⟩, hE⟩, hb2⟩
    gi_wp2_with fail
    refine ⟨by simp, .inl ⟨_, _, rfl, run_takeDeferred hK, ?_⟩⟩
    have g0 := cell_kept hb2.c0 (grownBy_putObj' _ D (.deferred none)) (fun r e => by cases e; exact ⟨_, hK, rfl⟩)
    have g1 := cell_kept hb2.c1 (grownBy_putObj' _ D (.deferred none)) (fun r e => by cases e; exact ⟨_, hK, rfl⟩)
    refine ⟨.tuple #[.int .i64 (xs.head?.getD 0), .bool true], ?_, ?_, ?_⟩
    · simp [results, Tryz.results13, go_sem, g0, g1]
    · cases xs with
      | nil => exact absurd rfl hne
      | cons a r => rfl
    · exact mB.trans ((hm.put_new (l := D) (by omega) _).toBelow (by omega) (fun k hk h => by omega))
end Go.Proofs.YtehlnhljpdjppaaGreatDoor
/- An element of an array of six cells. -/
namespace Go.Proofs.YtehlnhljpdjppaaGreatDoor
open Go.RowKit
theorem und6 : Tryz.prog.underlying 53 = some (.array 6 22) := by kernel_rfl
theorem und6i : Tryz.prog.underlying 55 = some (.array 6 3) := by kernel_rfl
theorem idx6 {w : World} (cs : Array Value) (i : Int) (h0 : 0 ≤ i) (h1 : i < 6) (hs : cs.size = 6) : (Instr.index 53 (.agg cs) (.int .i64 i)).run Tryz.prog w = .ok (cs.getD i.toNat undef) w := by
  have hz : Tryz.t22.size = 1 := by kernel_rfl
  have hl : i.toNat < cs.size := by omega
  simp [Instr.index, run_underlying und6, asIntOf, h0, h1, go_sem, part, sizeOf]
  rw [hz, Nat.mul_one, Array.getElem?_eq_getElem hl]
  simp [go_sem]
end Go.Proofs.YtehlnhljpdjppaaGreatDoor
/- Contracts of package calendar's fields, Is, Next. -/
namespace Go.Proofs.YtehlnhljpdjppaaGreatDoor
open Go.RowKit
attribute [local go_sem] idx6
set_option maxHeartbeats 1000000 in
theorem fields_any (S : Nat → Sl) (w : World) :
    Calls Tryz.prog 23 #[aggC S] w fun e w' => e = .returned (.agg #[slv (S 1), slv (S 2), slv (S 3), slv (S 4), slv (S 5), slv (S 6)]) ∧ Below w.heap.size w w' := by
  go_enter Tryz.func23, Tryz.ntmps23
  go_wp2
  refine bodyPost_ret (v := .agg #[slv (S 1), slv (S 2), slv (S 3), slv (S 4), slv (S 5), slv (S 6)]) (by simp [results, Tryz.results23, go_sem]) rfl ⟨rfl, ?_⟩
  exact ((Below.refl _ w).alloc (Nat.le_refl _) _).alloc (by simp) _
def lstOf (c : Cal.C7) : Nat → List Part
  | 0 => c.year
  | 1 => c.month
  | 2 => c.day
  | 3 => c.hour
  | 4 => c.minute
  | _ => c.second
def loOf (k : Nat) : Int := limCells[2 * k]?.getD 0
def hiOf (k : Nat) : Int := limCells[2 * k + 1]?.getD 0
def fbOf (c : Cal.C7) (k : Nat) : Bool := isFB (lstOf c k) (loOf k) (hiOf k)
theorem isB_six {c : Cal.C7} (h : ∀ j, j < 6 → fbOf c j = true) : isB c = isWB c.week := by
  have a0 : isFB c.year 1970 2200 = true := h 0 (by omega)
  have a1 : isFB c.month 1 12 = true := h 1 (by omega)
  have a2 : isFB c.day 1 31 = true := h 2 (by omega)
  have a3 : isFB c.hour 0 23 = true := h 3 (by omega)
  have a4 : isFB c.minute 0 59 = true := h 4 (by omega)
  have a5 : isFB c.second 0 59 = true := h 5 (by omega)
  unfold isB; rw [a0, a1, a2, a3, a4, a5]; simp
theorem isB_not {c : Cal.C7} {k : Nat} (hk : k < 6) (h : fbOf c k = false) : isB c = false := by
  have hk' : k = 0 ∨ k = 1 ∨ k = 2 ∨ k = 3 ∨ k = 4 ∨ k = 5 := by omega
  unfold isB
  rcases hk' with rfl | rfl | rfl | rfl | rfl | rfl
  · rw [show isFB c.year 1970 2200 = false from h]; rfl
  · rw [show isFB c.month 1 12 = false from h]; simp
  · rw [show isFB c.day 1 31 = false from h]; simp
  · rw [show isFB c.hour 0 23 = false from h]; simp
  · rw [show isFB c.minute 0 59 = false from h]; simp
  · rw [show isFB c.second 0 59 = false from h]; simp
theorem fb_next {c : Cal.C7} {k : Nat} (h : ∀ j, j < k → fbOf c j = true) (hk : fbOf c k = true) : ∀ j, j < k + 1 → fbOf c j = true := fun j hj => by
  by_cases e : j < k
  · exact h j e
  · obtain rfl : j = k := by omega
    exact hk
theorem pin_len {E : Nat → Prop} {W : World} {s : Sl} {ps : List Part} (h : Pin E W (slv s) ps) : s.2.1 = ps.length := by
  obtain ⟨p, cap, hv, _⟩ := h
  injection hv with h1 h2 h3
set_option maxRecDepth 100000 in
set_option maxHeartbeats 4000000 in
theorem isC_any (S : Nat → Sl) (c : Cal.C7) (w : World) (hp : CalPin (fun _ => False) w S c) (hg : Gl (fun _ => False) w) :
    Calls Tryz.prog 12 #[aggC S] w fun e w' => e = .returned (.bool (isB c)) ∧ Below w.heap.size w w' := by
  have hB0 : Below w.heap.size w (w.alloc (.cells #[slv (S 0), slv (S 1), slv (S 2), slv (S 3), slv (S 4), slv (S 5), slv (S 6)] 24)) := (Below.refl _ _).alloc (Nat.le_refl _) _
  have z0 : (w.alloc (.cells #[slv (S 0), slv (S 1), slv (S 2), slv (S 3), slv (S 4), slv (S 5), slv (S 6)] 24)).cell? ⟨w.heap.size, 0, none⟩ = some (slv (S 0)) := cell_at rfl rfl
  go_enter Tryz.func12, Tryz.ntmps12
  go_wp2_with fail
  refine (fields_any S _).mono ?_
  rintro e w1 ⟨rfl, hb1⟩
  have y0 : w1.cell? ⟨w.heap.size, 0, none⟩ = some (slv (S 0)) := (hb1.cell (p := ⟨w.heap.size, 0, none⟩) (by simp)).trans z0
  have hw1 : Below w.heap.size w w1 := hB0.trans (hb1.mono (by simp))
  have wl : w.heap.size < w1.heap.size := cell_lt y0
  clear z0 hb1 hB0
  go_wp2_with fail
  go_loopw [7] (fun i wr => ∃ (k : Nat) (z : Int), k ≤ 6 ∧ z = k ∧ i = .int .i64 z ∧ (∀ j, j < k → fbOf c j = true) ∧ Below w1.heap.size w1 wr) (fun i _ => 6 - (intOf i).toNat)
  case atStart => exact ⟨0, 0, by omega, rfl, rfl, fun j hj => by omega, Below.refl _ _⟩
  case round =>
    obtain ⟨k, z, hk, hz, rfl, hno, hb⟩ := hrel
    have hbw : Below w.heap.size w wr := hw1.trans (hb.mono (by omega))
    have hpr := hp.mv (Mv.below hbw) (Gr.refl _ _)
    have hgr := hg.mv (Mv.below hbw) (Gr.refl _ _)
    by_cases hk6 : k < 6
    · have hk' : k = 0 ∨ k = 1 ∨ k = 2 ∨ k = 3 ∨ k = 4 ∨ k = 5 := by omega
      obtain ⟨q, hq, hql⟩ : ∃ q : Pin (fun _ => False) wr (slv (S (k + 1))) (lstOf c k), True ∧ (S (k + 1)).2.1 = (lstOf c k).length := by
        rcases hk' with rfl | rfl | rfl | rfl | rfl | rfl
        · exact ⟨hpr.p1, trivial, pin_len hpr.p1⟩
        · exact ⟨hpr.p2, trivial, pin_len hpr.p2⟩
        · exact ⟨hpr.p3, trivial, pin_len hpr.p3⟩
        · exact ⟨hpr.p4, trivial, pin_len hpr.p4⟩
        · exact ⟨hpr.p5, trivial, pin_len hpr.p5⟩
        · exact ⟨hpr.p6, trivial, pin_len hpr.p6⟩
      have hkz : (k = 0 ∧ z = 0) ∨ (k = 1 ∧ z = 1) ∨ (k = 2 ∧ z = 2) ∨ (k = 3 ∧ z = 3) ∨ (k = 4 ∧ z = 4) ∨ (k = 5 ∧ z = 5) := by omega
      clear hz
      have ll := q.choose_spec.choose_spec.2.1
      have x0 : wr.cell? ⟨0, 2 * k, none⟩ = some (.int .i64 (loOf k)) := by
        rcases hk' with rfl | rfl | rfl | rfl | rfl | rfl <;> exact hgr.lim _ _ rfl
      have x1 : wr.cell? ⟨0, 2 * k + 1, none⟩ = some (.int .i64 (hiOf k)) := by
        rcases hk' with rfl | rfl | rfl | rfl | rfl | rfl <;> exact hgr.lim _ _ rfl
      have hNx := fun h => fb_next (c := c) (k := k) hno h
      have hNo := fun h => isB_not (c := c) (k := k) hk6 h
      unfold fbOf isFB at hNx hNo
      revert q hql ll x0 x1 hNx hNo
      generalize hL : lstOf c k = L
      generalize loOf k = lo
      generalize hiOf k = hi
      intro q hql ll x0 x1 hNx hNo
      cases L with
      | nil =>
        have hF := hNo rfl
        have hF' : Hid (isB c = false) := hF
        clear hNx hNo hF
        simp only [List.length_nil] at hql
        rcases hkz with ⟨rfl, rfl⟩ | ⟨rfl, rfl⟩ | ⟨rfl, rfl⟩ | ⟨rfl, rfl⟩ | ⟨rfl, rfl⟩ | ⟨rfl, rfl⟩
        all_goals
          simp only [Nat.reduceAdd, Nat.reduceMul] at q hql x0 x1
          go_wp2_with fail
          go_ret
          exact ⟨ret_bool hF'.out.symm, hbw⟩
      | cons a r =>
        have hne : ¬ (S (k + 1)).2.1 = 0 := by rw [hql]; simp
        cases hfit : isLB (a :: r) lo hi
        · have hF : Hid (isB c = false) := hNo (by rw [hfit]; rfl)
          clear hNx hNo
          rcases hkz with ⟨rfl, rfl⟩ | ⟨rfl, rfl⟩ | ⟨rfl, rfl⟩ | ⟨rfl, rfl⟩ | ⟨rfl, rfl⟩ | ⟨rfl, rfl⟩
          all_goals
            simp only [Nat.reduceAdd, Nat.reduceMul] at q hql x0 x1
            go_wp2_with fail
            refine (isList_any (a :: r) lo hi _ wr q).mono ?_
            rintro e w2 ⟨rfl, hb2⟩
            go_wp2_with fail
            go_ret
            exact ⟨ret_bool hF.out.symm, hbw.trans (hb2.mono hbw.size)⟩
        · have hN := hNx (by rw [hfit]; rfl)
          clear hNx hNo
          rcases hkz with ⟨rfl, rfl⟩ | ⟨rfl, rfl⟩ | ⟨rfl, rfl⟩ | ⟨rfl, rfl⟩ | ⟨rfl, rfl⟩ | ⟨rfl, rfl⟩
          all_goals
            simp only [Nat.reduceAdd, Nat.reduceMul] at q hql x0 x1
            go_wp2_with fail
            refine (isList_any (a :: r) lo hi _ wr q).mono ?_
            rintro e w2 ⟨rfl, hb2⟩
            go_wp2_with fail
            exact ⟨⟨_, _, (by decide), rfl, rfl, hN, hb.trans (hb2.mono hb.size)⟩, by simp [intOf]⟩
    · obtain rfl : k = 6 := by omega
      obtain rfl : z = 6 := by omega
      have hI : Hid (isB c = isWB c.week) := isB_six hno
      have x0 : wr.cell? ⟨w.heap.size, 0, none⟩ = some (slv (S 0)) := (hb.cell (p := ⟨w.heap.size, 0, none⟩) wl).trans y0
      clear hno hz hk6 hk
      go_wp2_with fail
      refine (isWeek_any c.week _ wr hpr.p0).mono ?_
      rintro e w2 ⟨rfl, hb2⟩
      go_wp2_with fail
      go_ret
      exact ⟨ret_bool hI.out.symm, hbw.trans (hb2.mono hbw.size)⟩
set_option maxHeartbeats 1000000 in
theorem next_any (S : Nat → Sl) (c : Cal.C7) (t : Int) (w : World) (hp : CalPin (fun _ => False) w S c) (hg : Gl (fun _ => False) w) (tmax : t ≤ 9223372036854775807) :
    Calls Tryz.prog 6 #[aggC S, .int .i64 t] w fun e w' => e = .returned (.tuple #[.int .i64 (if isB c = true then (Cal.nx c t).getD 0 else 0), .bool (isB c && (Cal.nx c t).isSome)]) ∧ Below w.heap.size w w' := by
  have hB0 : Below w.heap.size w (w.alloc (.cells #[slv (S 0), slv (S 1), slv (S 2), slv (S 3), slv (S 4), slv (S 5), slv (S 6)] 24)) := (Below.refl _ _).alloc (Nat.le_refl _) _
  have hp0 := hp.mv (Mv.below hB0) (Gr.refl _ _)
  have hg0 := hg.mv (Mv.below hB0) (Gr.refl _ _)
  have hbx : CalBox (fun _ => False) (w.alloc (.cells #[slv (S 0), slv (S 1), slv (S 2), slv (S 3), slv (S 4), slv (S 5), slv (S 6)] 24)) w.heap.size S c := calBox_new S c _ (fun _ h => h.elim)
  cases hI : isB c
  · go_enter Tryz.func6, Tryz.ntmps6
    go_wp2_with fail
    refine (isC_any S c _ hp0 hg0).mono ?_
    rintro e w1 ⟨rfl, hb1⟩
    go_wp2_with fail
    go_ret2
    exact ⟨rfl, hB0.trans (hb1.mono (by simp))⟩
  · have ho := isB_ok hI
    go_enter Tryz.func6, Tryz.ntmps6
    go_wp2_with fail
    refine (isC_any S c _ hp0 hg0).mono ?_
    rintro e w1 ⟨rfl, hb1⟩
    have hbx1 := hbx.mv (Mv.below hb1) (Gr.refl _ _)
    have hp1 := hp0.mv (Mv.below hb1) (Gr.refl _ _)
    have hg1 := hg0.mv (Mv.below hb1) (Gr.refl _ _)
    have k0 := hbx1.c0
    have k1 := hbx1.c1
    have k2 := hbx1.c2
    have k3 := hbx1.c3
    have k4 := hbx1.c4
    have k5 := hbx1.c5
    have k6 := hbx1.c6
    go_wp2_with fail
    refine (timesAbove_any S c t (fun _ => False) w1 hp1 hg1 (fun _ h => h.elim) ho tmax).mono ?_
    rintro e w2 ⟨lb, rfl, hb2, hrow⟩
    go_wp2_with fail
    refine (first_any lb (Cal.ts c t) w2 hrow).mono ?_
    rintro e w3 ⟨rfl, hb3⟩
    have hz1 := hb1.size
    have hz2 := hb2.size
    simp at hz1
    go_wp2_with fail
    go_ret2
    exact ⟨rfl, (hB0.trans (hb1.mono (by simp))).trans ((hb2.mono (by omega)).trans (hb3.mono (by omega)))⟩
end Go.Proofs.YtehlnhljpdjppaaGreatDoor
