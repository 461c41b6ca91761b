/- Contracts of package civil's months, and of the function that it gives: the months of a year with their lengths, each once, rising, as far as they are asked for. -/
import Derived.RangeFuncNested
import Derived.RangeFuncBound
import Derived.RangeFuncCalls
import Derived.RangeFuncLeaves
import Derived.RangeFuncFrom
import Derived.Shelf.Abstract
import Derived.Shelf.RegionOpen
import Derived.OwnWalkIn
import Derived.TacticsInMore
import Derived.LoopNIn
import Derived.LoopIn
import Derived.Test.YteaaknbininehabDoorC2
namespace Go.Proofs.YteaaknbininehabDoor
open Go.RowKit Go.Shelf
attribute [local go_sem] Oper.semAt_some
/-- What a round that goes on keeps: the cells of the lengths, and of the block by. -/
def KpM (bx : Nat) (W W' : World) : Prop := ∀ b o, (b = 1 ∨ b = bx) → W'.cell? ⟨b, o, none⟩ = W.cell? ⟨b, o, none⟩
theorem KpM.trans {bx : Nat} {A B C : World} (h : KpM bx A B) (h' : KpM bx B C) : KpM bx A C := fun b o hb => (h' b o hb).trans (h b o hb)
theorem KpM.refl (bx : Nat) (A : World) : KpM bx A A := fun _ _ _ => rfl
theorem putObj_cell {W : World} {r : Nat} {o : Obj} {a : Addr} (h : a.block ≠ r) : (W.putObj r o).cell? a = W.cell? a := World.cell?_of_block (World.putObj_heap_other h)
theorem KpM.put {bx n : Nat} (hb : bx < n) (h1 : 1 < n) (W : World) (l : Nat) (o o' : Obj) (hl : n ≤ l) (_ : W.heap[l]? = some o) (_ : o.isCells = false) (_ : o.isWalk = false) : KpM bx W (W.putObj l o') := fun b off h => putObj_cell (by
  show b ≠ l
  rcases h with rfl | rfl <;> omega)
theorem KpM.len {bx : Nat} {A B : World} (h : KpM bx A B) (hT : LenIn A) : LenIn B := fun j v hv => (h 1 j (.inl rfl)).trans (hT j v hv)
theorem KpM.setCell {bx : Nat} (W : World) (b o : Nat) (v : Value) (h0 : b ≠ 1) (h1 : b ≠ bx) : KpM bx W (W.setCell ⟨b, o, none⟩ v) := fun b' o' h => World.cell?_setCell_other _ _ _ _ (by
  intro e
  cases e
  rcases h with h | h
  · exact h0 h
  · exact h1 h)
def mEnc (y : Int) (x : Fin 12) : Array Value := #[.int .i64 ((x.val : Int) + 1), .int .i64 (Civ.dim y ((x.val : Int) + 1))]
theorem fin_take (k : Nat) (h : k < 12) : (List.finRange 12).take (k + 1) = (List.finRange 12).take k ++ [⟨k, h⟩] := by
  rw [List.take_succ_eq_append_getElem (by simpa using h)]; simp
theorem fin_len (k : Nat) (h : k ≤ 12) : ((List.finRange 12).take k).length = k := by simp; omega
set_option maxHeartbeats 400000 in
theorem months_any (y : Int) (w : World) :
    Calls Tryd.prog 42 #[.int .i64 y] w fun e w' => e = .returned (.func (.func 65) #[] #[.pointer (some ⟨w.heap.size, 0, none⟩)]) ∧ w' = w.alloc (.cells #[.int .i64 y] 3) := by
  go_enter Tryd.func42, Tryd.ntmps42
  go_wp2
  go_ret
  exact ⟨rfl, rfl⟩
set_option maxRecDepth 100000 in
set_option maxHeartbeats 2000000 in
theorem months1_in (n l bx : Nat) (y : Int) (y0 : 0 ≤ y) (y1 : y ≤ 100000) (J Jx : List (Fin 12) → World → Prop)
    (hY : ∀ pre x W, J pre W → pre.length < 12 → YieldAt Fence.wide (n - 1) Tryd.prog l (mEnc y x) W fun e W' =>
      (e = .returned (.bool true) ∧ J (pre ++ [x]) W' ∧ KpM bx W W') ∨ (e = .returned (.bool false) ∧ Jx (pre ++ [x]) W'))
    (W : World) (hT : LenIn W) (hc : W.cell? ⟨bx, 0, none⟩ = some (.int .i64 y)) (h0 : J [] W) :
    CallsIn Fence.wide n Tryd.prog 65 #[.func (.yield l) #[] #[], .pointer (some ⟨bx, 0, none⟩)] W fun e W' => (∃ v, e = .returned v) ∧
      ((∃ ys, ys = List.finRange 12 ∧ J ys W') ∨ (∃ pre, (∃ k, k ≤ 12 ∧ pre = (List.finRange 12).take k) ∧ Jx pre W')) := by
  refine callsIn_of_wp Tryd.func65 rfl trivial ?_ rfl
  simp only [Tryd.ntmps65, List.size_toArray, List.length_cons, List.length_nil, Nat.reduceAdd, Nat.reduceSub, Array.replicate_succ, Array.replicate_zero, List.push_toArray, List.append_toArray, List.nil_append, List.cons_append]
  gi_wp2
  gi_loopw [3] (fun i wr => ∃ k : Nat, k ≤ 12 ∧ i = .int .i64 ((k : Int) + 1) ∧ J ((List.finRange 12).take k) wr ∧ KpM bx W wr) (fun i _ => 13 - (intOf i).toNat)
  case atStart => exact ⟨0, by omega, rfl, h0, KpM.refl _ _⟩
  case round =>
    obtain ⟨k, hk, rfl, hJs, hKs⟩ := hrel
    by_cases hlt : k < 12
    · obtain ⟨fn, tmps, assign, body, hy, hR⟩ := hY _ ⟨k, hlt⟩ wr hJs (by rw [fin_len k hk]; exact hlt)
      dsimp only [mEnc] at hy
      have hcx : wr.cell? ⟨bx, 0, none⟩ = some (.int .i64 y) := (hKs bx 0 (.inr rfl)).trans hc
      have hTx := hKs.len hT
      gi_wp2
      refine ⟨trivial, fun h => (by cases h), ?_⟩
      refine (callsIn_wide.2 (length_any _ _ _ hTx (by omega) (by omega) (by omega) (by omega))).mono ?_
      rintro e w' ⟨rfl, rfl⟩
      gi_wp2
      refine ⟨fun h => (by cases h), ?_⟩
      refine hR.mono ?_
      rintro e W3 (⟨rfl, hJ3, hk3⟩ | ⟨rfl, hJx3⟩)
      · gi_wp2
        exact ⟨⟨k + 1, by omega, by go_num, by rw [fin_take k hlt]; exact hJ3, hKs.trans hk3⟩, by simp [intOf]; omega⟩
      · gi_wp2
        refine bodyPost_ret (results_none rfl _ _ _) rfl ?_
        exact ⟨⟨_, rfl⟩, .inr ⟨_, ⟨k + 1, by omega, (fin_take k hlt).symm⟩, hJx3⟩⟩
    · obtain rfl : k = 12 := by omega
      gi_wp2
      go_end0
      exact ⟨⟨_, rfl⟩, .inl ⟨_, by rw [List.take_of_length_le (by simp)], hJs⟩⟩
/-- The function that 'months' gives: all twelve, in order; or the first k of them. -/
theorem months_stops (n bx : Nat) (y : Int) (y0 : 0 ≤ y) (y1 : y ≤ 100000) (w : World) (hT : LenIn w) (hb : bx < w.heap.size) (hc : w.cell? ⟨bx, 0, none⟩ = some (.int .i64 y)) :
    SeqStopsK Fence.wide n Tryd.prog 65 #[.pointer (some ⟨bx, 0, none⟩)] (mEnc y) (KpM bx) (fun ys => ys = List.finRange 12) (fun pre => ∃ k, k ≤ 12 ∧ pre = (List.finRange 12).take k) 12 w := fun l J Jx W hW _ _ hY h0 =>
  months1_in n l bx y y0 y1 J Jx hY W (hT.below hT.pos hW) ((hW.cell (p := ⟨bx, 0, none⟩) hb).trans hc) h0
end Go.Proofs.YteaaknbininehabDoor
