/- What lies in memory while span.Least ranges over SpanLeast's own function; that function's contract. -/
import Derived.RangeFuncNested
import Derived.RangeFuncBound
import Derived.RangeFuncCalls
import Derived.RangeFuncLeaves
import Derived.Shelf.Abstract
import Derived.Shelf.RegionOpen
import Derived.WalkKit
import Derived.OwnWalkIn
import Derived.TacticsInMore
import Derived.LoopNIn
import Derived.LoopIn
import Derived.Maps.AppendAt
import Derived.Test.YtlnfapkpehhafaaDoorW8
namespace Go.Proofs.YtlnfapkpehhafaaDoor
open Go.RowKit Go.Shelf
attribute [local go_sem] Oper.semAt_some
/-- The least of the first k numbers; 0 of none. -/
def mn (x : Nat → Int) : Nat → Int
  | 0 => 0
  | k + 1 => if k = 0 then x 0 else if x k < mn x k then x k else mn x k
/-- Between two rounds: the loop's record, the block of deferred calls, the two variables of Least, the counter of the function that is ranged over; all else that lay in w lies as it lay. -/
structure St (w : World) (bg : Nat) (rec : Loop) (m : Int) (f : Bool) (g : Nat) (W : World) : Prop where
  lp : W.heap[w.heap.size + 3]? = some (.loop rec)
  df : W.heap[w.heap.size + 2]? = some (.deferred (some []))
  cL : W.cell? ⟨w.heap.size, 0, none⟩ = some (.int .i64 m)
  fL : W.frozen? ⟨w.heap.size, 0, none⟩ = false
  cF : W.cell? ⟨w.heap.size + 1, 0, none⟩ = some (.bool f)
  fF : W.frozen? ⟨w.heap.size + 1, 0, none⟩ = false
  cG : W.cell? ⟨bg, 0, none⟩ = some (.int .i64 g)
  fG : W.frozen? ⟨bg, 0, none⟩ = false
  gr : w.grownBy W (some bg)
theorem putObj_cell {W : World} {r : Nat} {o : Obj} {a : Addr} (h : a.block ≠ r) : (W.putObj r o).cell? a = W.cell? a := World.cell?_of_block (World.putObj_heap_other h)
theorem putObj_frozen {W : World} {r : Nat} {o : Obj} {a : Addr} (h : a.block ≠ r) : (W.putObj r o).frozen? a = W.frozen? a := World.frozen?_of_block (World.putObj_heap_other h)
theorem grown_put {w W : World} {bg r : Nat} {o : Obj} (h : w.grownBy W (some bg)) (hr : w.heap.size ≤ r) : w.grownBy (W.putObj r o) (some bg) :=
  ⟨h.os, h.tape, h.output, by simpa using h.size, fun k hk hne => (World.putObj_heap_other (by omega)).trans (h.block k hk hne)⟩
theorem setCell_size (W : World) (a : Addr) (v : Value) : (W.setCell a v).heap.size = W.heap.size := by
  show (W.heap.modify _ _).size = _; rw [Array.size_modify]
theorem grown_set {w W : World} {bg : Nat} {a : Addr} {v : Value} (h : w.grownBy W (some bg)) (ha : w.heap.size ≤ a.block ∨ a.block = bg) : w.grownBy (W.setCell a v) (some bg) :=
  ⟨h.os, h.tape, h.output, by rw [setCell_size]; exact h.size, fun k hk hne => (Below.heap_setCell W a v k (by
    intro e
    rcases ha with ha | ha
    · omega
    · exact hne (by rw [e, ha]))).trans (h.block k hk hne)⟩
theorem set_heap {W : World} {a : Addr} {v : Value} {k : Nat} {o : Obj} (h : W.heap[k]? = some o) (hne : k ≠ a.block) : (W.setCell a v).heap[k]? = some o := (Below.heap_setCell W a v k hne).trans h
theorem ne_block {a b : Nat} (h : a ≠ b) : (⟨a, 0, none⟩ : Addr) ≠ ⟨b, 0, none⟩ := fun e => h (by cases e; rfl)
theorem St.setG {w W : World} {bg : Nat} {rec : Loop} {m : Int} {f : Bool} {g : Nat} (h : St w bg rec m f g W) (hb : bg < w.heap.size) (g' : Nat) (v : Int) (hv : v = g') : St w bg rec m f g' (W.setCell ⟨bg, 0, none⟩ (.int .i64 v)) :=
  ⟨set_heap h.lp (by simp; omega), set_heap h.df (by simp; omega),
   (World.cell?_setCell_other _ _ _ _ (ne_block (by omega))).trans h.cL, by rw [World.frozen?_setCell]; exact h.fL,
   (World.cell?_setCell_other _ _ _ _ (ne_block (by omega))).trans h.cF, by rw [World.frozen?_setCell]; exact h.fF,
   by rw [World.cell?_setCell_same _ _ _ h.cG, hv], by rw [World.frozen?_setCell]; exact h.fG, grown_set h.gr (.inr rfl)⟩
theorem St.putL {w W : World} {bg : Nat} {rec : Loop} {m : Int} {f : Bool} {g : Nat} (h : St w bg rec m f g W) (hb : bg < w.heap.size) (rec' : Loop) : St w bg rec' m f g (W.putObj (w.heap.size + 3) (.loop rec')) :=
  ⟨World.putObj_heap_same (Array.getElem?_eq_some_iff.1 h.lp).1, (World.putObj_heap_other (by omega)).trans h.df,
   (putObj_cell (by simp)).trans h.cL, (putObj_frozen (by simp)).trans h.fL,
   (putObj_cell (by simp)).trans h.cF, (putObj_frozen (by simp)).trans h.fF,
   (putObj_cell (by simp; omega)).trans h.cG, (putObj_frozen (by simp; omega)).trans h.fG, grown_put h.gr (by omega)⟩
theorem St.setLF {w W : World} {bg : Nat} {rec : Loop} {m : Int} {f : Bool} {g : Nat} (h : St w bg rec m f g W) (hb : bg < w.heap.size) (m' : Int) :
    St w bg rec m' true g ((W.setCell ⟨w.heap.size, 0, none⟩ (.int .i64 m')).setCell ⟨w.heap.size + 1, 0, none⟩ (.bool true)) :=
  ⟨set_heap (set_heap h.lp (by simp)) (by simp), set_heap (set_heap h.df (by simp)) (by simp),
   (World.cell?_setCell_other _ _ _ _ (by simp)).trans (World.cell?_setCell_same _ _ _ h.cL), by rw [World.frozen?_setCell, World.frozen?_setCell]; exact h.fL,
   World.cell?_setCell_same _ _ _ ((World.cell?_setCell_other _ _ _ _ (by simp)).trans h.cF), by rw [World.frozen?_setCell, World.frozen?_setCell]; exact h.fF,
   (World.cell?_setCell_other _ _ _ _ (ne_block (by omega))).trans ((World.cell?_setCell_other _ _ _ _ (ne_block (by omega))).trans h.cG), by rw [World.frozen?_setCell, World.frozen?_setCell]; exact h.fG,
   grown_set (grown_set h.gr (.inl (by simp))) (.inl (by simp))⟩
/-- What the function that is ranged over reads: its slice's box, the slice's numbers. -/
structure Src (w : World) (bl bg : Nat) (a : Option Addr) (b o len cap : Nat) (x : Nat → Int) : Prop where
  box : w.cell? ⟨bl, 0, none⟩ = some (.slice a len cap)
  ha : 0 < len → a = some ⟨b, o, none⟩
  el : ∀ j, j < len → w.cell? ⟨b, o + j, none⟩ = some (.int .i64 (x j))
  nl : bl ≠ bg
  nb : 0 < len → b ≠ bg
theorem src_box {w W : World} {bl bg : Nat} {a : Option Addr} {b o len cap : Nat} {x : Nat → Int} (h : Src w bl bg a b o len cap x) (hg : w.grownBy W (some bg)) : W.cell? ⟨bl, 0, none⟩ = some (.slice a len cap) :=
  hg.cell h.box (by simpa using h.nl)
theorem src_el {w W : World} {bl bg : Nat} {a : Option Addr} {b o len cap : Nat} {x : Nat → Int} (h : Src w bl bg a b o len cap x) (hg : w.grownBy W (some bg)) (j : Nat) (hj : j < len) : W.cell? ⟨b, o + j, none⟩ = some (.int .i64 (x j)) :=
  hg.cell (h.el j hj) (by simpa using h.nb (by omega))
set_option maxRecDepth 100000 in
set_option maxHeartbeats 2000000 in
theorem iter_in (n : Nat) (w : World) (bl bg : Nat) (a : Option Addr) (b o len cap : Nat) (x : Nat → Int) (rec : Loop) (hs : Src w bl bg a b o len cap x) (hbg : bg < w.heap.size) (hlen : len ≤ 200)
    (hY : ∀ i W, i < len → St w bg rec (mn x i) (decide (0 < i)) (i + 1) W → YieldAt Fence.wide (n - 1) Tryd.prog (w.heap.size + 3) #[.int .i64 (x i)] W fun e W' => e = .returned (.bool true) ∧ St w bg rec (mn x (i + 1)) (decide (0 < i + 1)) (i + 1) W')
    (W : World) (h0 : St w bg rec 0 false 0 W) :
    CallsIn Fence.wide n Tryd.prog 19 #[.func (.yield (w.heap.size + 3)) #[] #[], .pointer (some ⟨bl, 0, none⟩), .pointer (some ⟨bg, 0, none⟩)] W fun e W' => (∃ v, e = .returned v) ∧ St w bg rec (mn x len) (decide (0 < len)) len W' := by
  refine callsIn_of_wp Tryd.func19 rfl trivial ?_ rfl
  simp only [Tryd.ntmps19, List.size_toArray, List.length_cons, List.length_nil, Nat.reduceAdd, Nat.reduceSub, Array.replicate_succ, Array.replicate_zero, List.push_toArray, List.append_toArray, List.nil_append, List.cons_append]
  gi_wp2
  gi_loopw [4] (fun ix wr => ∃ i : Nat, ix = .int .i64 i ∧ i ≤ len ∧ St w bg rec (mn x i) (decide (0 < i)) i wr) (fun ix _ => len - (intOf ix).toNat)
  case atStart => exact ⟨0, rfl, Nat.zero_le _, h0⟩
  case round =>
    obtain ⟨i, rfl, hi, hst⟩ := hrel
    have cb := src_box hs hst.gr
    by_cases hlt : i < len
    · obtain rfl := hs.ha (by omega)
      have hG := hst.setG hbg (i + 1) ((i : Int) + 1) (by omega)
      have hel := src_el hs hG.gr i hlt
      have cb2 := src_box hs hG.gr
      obtain ⟨fn, tmps, assign, body, hy, hR⟩ := hY i _ hlt hG
      have cG := hst.cG
      have fG := hst.fG
      have hi1 : (i : Int) < (len : Int) := by omega
      gi_wp2
      refine ⟨fun h => (by cases h), ?_⟩
      refine hR.mono ?_
      rintro e W3 ⟨rfl, hst3⟩
      gi_wp2
      exact ⟨⟨i + 1, by go_num, by omega, hst3⟩, by simp [intOf]; omega⟩
    · obtain rfl : i = len := by omega
      gi_wp2
      go_end0
      exact ⟨⟨_, rfl⟩, hst⟩
end Go.Proofs.YtlnfapkpehhafaaDoor
