/- A whole unit is loaded or stored: steps of a walk. -/
import Derived.Test.YtedgnigogkmgkaaGreatDoorGU
namespace Go.Proofs.YtedgnigogkmgkaaGreatDoor
open Go.RowKit Go.Shelf Go.Lib
theorem loadAtU {w : World} {p : Addr} {vs : Array Value} (hr : (loadCells p 33).run Tryz.prog w = .ok vs w) : (Instr.loadAt 30 (.pointer (some p))).run Tryz.prog w = .ok (.agg vs) w := by
  have h1 := Tryz.isAgg30
  have h2 : ∀ w, (sizeOf 30).run Tryz.prog w = .ok 33 w := fun w => by kernel_rfl
  have h3 : (Instr.sureAddr (.pointer (some p))).run Tryz.prog w = .ok p w := rfl
  unfold Instr.loadAt
  simp [loadVar, h1, h2, h3, hr, Result.andThen]
theorem loadVarU {w : World} {p : Addr} {vs : Array Value} (hr : (loadCells p 33).run Tryz.prog w = .ok vs w) : (loadVar 30 p).run Tryz.prog w = .ok (.agg vs) w := by
  have h1 := Tryz.isAgg30
  have h2 : ∀ w, (sizeOf 30).run Tryz.prog w = .ok 33 w := fun w => by kernel_rfl
  simp [loadVar, h1, h2, hr, Result.andThen]
theorem storeAtU {w W : World} {p : Addr} {vs : Array Value} (hs : vs.size = 33) (hr : (storeCells p vs.toList).run Tryz.prog w = .ok () W) : (Instr.storeAt 30 (.pointer (some p)) (.agg vs)).run Tryz.prog w = .ok () W := by
  have h2 : ∀ w, (sizeOf 30).run Tryz.prog w = .ok 33 w := fun w => by kernel_rfl
  have h3 : (Instr.sureAddr (.pointer (some p))).run Tryz.prog w = .ok p w := rfl
  unfold Instr.storeAt
  simp [storeVar, h2, h3, hs, hr, Result.andThen, Value.cells]
theorem wpList_loadU {w : World} {ops : Array Oper} {rest : List Oper} {o : Oper} {a : Act} {Q : Exit → Act → World → Prop} (hgd : o.guard = none) (s : Operand) (ho : o.op = .load 30 s) (p : Addr) (hs : a.eval s = .pointer (some p)) (vs : Array Value)
    (hr : (loadCells p 33).run Tryz.prog w = .ok vs w) (h : wpList Tryz.prog ops Q rest (a.put o.dst (.agg vs)) w) : wpList Tryz.prog ops Q (o :: rest) a w := by
  refine wpList_plain hgd fun K hK => ?_
  unfold Oper.wp execOp
  simp only [ho, hs, Sem.run_bind, loadAtU hr, Sem.run_pure, Result.andThen_ok]
  exact hK _ _ h
theorem wpList_storeU {w W : World} {ops : Array Oper} {rest : List Oper} {o : Oper} {a : Act} {Q : Exit → Act → World → Prop} (hgd : o.guard = none) (s x : Operand) (ho : o.op = .store 30 s x) (p : Addr) (hs : a.eval s = .pointer (some p)) (vs : Array Value) (hx : a.eval x = .agg vs) (hz : vs.size = 33)
    (hr : (storeCells p vs.toList).run Tryz.prog w = .ok () W) (h : wpList Tryz.prog ops Q rest (a.put o.dst undef) W) : wpList Tryz.prog ops Q (o :: rest) a w := by
  refine wpList_plain hgd fun K hK => ?_
  unfold Oper.wp execOp
  simp only [ho, hs, hx, Sem.run_bind, storeAtU hz hr, Sem.run_pure, Result.andThen_ok]
  exact hK _ _ h
theorem step_storeU {w W : World} {ops : Array Oper} {o : Oper} {a : Act} {K : Act → World → Prop} {Q : Exit → Act → World → Prop} {E : Prop} (hgd : o.guard = none) (s x : Operand) (ho : o.op = .store 30 s x) (p : Addr) (hs : a.eval s = .pointer (some p)) (vs : Array Value) (hx : a.eval x = .agg vs) (hz : vs.size = 33)
    (hr : (storeCells p vs.toList).run Tryz.prog w = .ok () W) (h : K (a.put o.dst undef) W) : if Region.wanted o (yielded ops a.tmps) = true then Oper.wp Tryz.prog o a w K Q else E := by
  have hw : Region.wanted o (yielded ops a.tmps) = true := by simp [Region.wanted, hgd]
  rw [if_pos hw]
  unfold Oper.wp execOp
  simp only [ho, hs, hx, Sem.run_bind, storeAtU hz hr, Sem.run_pure, Result.andThen_ok]
  exact h
theorem exec_loadU {w : World} {o : Oper} {a : Act} (s : Operand) (ho : o.op = .load 30 s) (p : Addr) (hs : a.eval s = .pointer (some p)) (vs : Array Value) (hr : (loadCells p 33).run Tryz.prog w = .ok vs w) : (execOp a.eval o).run Tryz.prog w = .ok (.value (.agg vs)) w := by
  unfold execOp
  simp only [ho, hs, Sem.run_bind, loadAtU hr, Sem.run_pure, Result.andThen_ok]
end Go.Proofs.YtedgnigogkmgkaaGreatDoor
