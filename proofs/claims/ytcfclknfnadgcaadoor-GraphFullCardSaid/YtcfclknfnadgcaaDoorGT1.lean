/- What a unit tells of: an edge of a relation; steps of a walk under a fence. -/
import Derived.Test.YtcfclknfnadgcaaDoorRWe
import Derived.Test.YtcfclknfnadgcaaDoorGL
import Derived.Test.YtcfclknfnadgcaaDoorNI
namespace Go.Proofs.YtcfclknfnadgcaaDoor
open Go.RowKit Go.Shelf Go.Lib
theorem wpListIn_loadU {F : Fence} {n : Nat} {w : World} {ops : Array Oper} {rest : List Oper} {o : Oper} {a : Act} {Q : Exit → Act → World → Prop} (hg : o.guard = none) (s : Operand) (ho : o.op = .load 29 s) (p : Addr) (hs : a.eval s = .pointer (some p)) (vs : Array Value)
    (hr : (loadCells p 33).run Tryd.prog w = .ok vs w) (h : wpListIn F n Tryd.prog ops Q rest (a.put o.dst (.agg vs)) w) : wpListIn F n Tryd.prog ops Q (o :: rest) a w := by
  refine wpListIn_plain hg fun K hK' => ?_
  unfold Oper.wpIn
  refine ⟨?_, ?_⟩
  · simp [Oper.about, ho]
  · rw [Oper.semAt_plain F _ _ (by rw [ho]; intro c hc'; cases hc')]
    simp [execOp, ho, hs, loadAtU hr, Result.andThen]
    exact hK' _ _ h
set_option maxRecDepth 100000 in
set_option maxHeartbeats 1000000 in
theorem edge_any (k : Int) (t : Bool) (v : Value) (n s : ByteArray) (w : World) :
    Calls Tryd.prog 45 #[.agg #[.int .i64 k, .bool t, v], .string n, .string s] w fun e w' => e = .returned (.agg #[.int .i64 (edO n k t s).1, .string (edO n k t s).2.1, .string (edO n k t s).2.2]) ∧ Below w.heap.size w w' := by
  obtain ⟨B, hB⟩ : ∃ B, w.heap.size = B := ⟨_, rfl⟩
  cases t
  · go_enter Tryd.func45, Tryd.ntmps45
    go_wp2_with fail
    refine bodyPost_ret (v := .agg #[.int .i64 k, .string n, .string s]) (by simp [results, Tryd.results45, go_sem, hB]) rfl ⟨rfl, ?_⟩
    exact ((Below.refl _ _).alloc (by omega) _).alloc (by simp) _
  · go_enter Tryd.func45, Tryd.ntmps45
    go_wp2_with fail
    refine bodyPost_ret (v := .agg #[.int .i64 k, .string s, .string n]) (by simp [results, Tryd.results45, go_sem, hB]) rfl ⟨rfl, ?_⟩
    exact ((Below.refl _ _).alloc (by omega) _).alloc (by simp) _
theorem edN_cons (n : ByteArray) (k : Int) (t : Bool) (x : ByteArray) (r : List ByteArray) : edR n (k, t, x :: r) = if okO n x then edO n k t x :: edR n (k, t, r) else edR n (k, t, r) := by
  unfold edR
  cases h : okO n x <;> simp [h]
/-- The package's variables stay. -/
theorem GlN.mv {w w' : World} {E : Nat → Prop} (h : GlN w) (m : Mv E w w') (h0 : ¬ E 0) (h1 : ¬ E 1) : GlN w' :=
  ⟨fun j e he => ⟨m.cell (a := ⟨0, 2 * j, none⟩) h0 (h.en j e he).1, m.cell (a := ⟨0, 2 * j + 1, none⟩) h0 (h.en j e he).2⟩,
    by obtain ⟨q, hq⟩ := h.mx; exact ⟨q, m.cell (a := ⟨1, 0, none⟩) h1 hq⟩⟩
theorem GlN.lt {w : World} (h : GlN w) : 0 < w.heap.size ∧ 1 < w.heap.size := by
  obtain ⟨q, hq⟩ := h.mx
  exact ⟨cell_lt (h.en 0 _ rfl).1, cell_lt hq⟩
def encE (e : Ed) : Array Value := #[.agg #[.int .i64 e.1, .string e.2.1, .string e.2.2]]
end Go.Proofs.YtcfclknfnadgcaaDoor
