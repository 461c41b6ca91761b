/- What turns when a queue turns. -/
import Derived.Test.YtppbdamlhcmlcaaPQ
import Derived.Deep.RegionLaw
namespace Go.Proofs.Ytppbdamlhcmlcaa
open Go.RowKit Go.Shelf Go.Lib
theorem step_append_run {P : Program} {w : World} {ops : Array Oper} {o : Oper} {a : Act} {K : Act → World → Prop} {Q : Exit → Act → World → Prop} {E : Prop} (hgd : o.guard = none) (s x : Operand) (t : TypeId)
    (ho : o.op = .call { callee := .builtin .append, args := #[s, x], argTypes := #[t, t] }) (v xv v' : Value) (w' : World) (hs : a.eval s = v) (hx : a.eval x = xv)
    (hr : (Builtin.append_ #[t, t] o.type #[v, xv]).run P w = .ok v' w') (h : K (a.put o.dst v') w') : if Region.wanted o (yielded ops a.tmps) = true then Oper.wp P o a w K Q else E := by
  have hw : Region.wanted o (yielded ops a.tmps) = true := by simp [Region.wanted, hgd]
  rw [if_pos hw]
  unfold Oper.wp execOp
  simp only [ho, resolve, invoke, builtin, Sem.run_bind, Sem.run_pure, Result.andThen_ok, List.map_toArray, List.map_cons, List.map_nil, hs, hx, hr]
  exact h
theorem wpList_append_run {P : Program} {w : World} {ops : Array Oper} {rest : List Oper} {o : Oper} {a : Act} {Q : Exit → Act → World → Prop} (hgd : o.guard = none) (s x : Operand) (t : TypeId)
    (ho : o.op = .call { callee := .builtin .append, args := #[s, x], argTypes := #[t, t] }) (v xv v' : Value) (w' : World) (hs : a.eval s = v) (hx : a.eval x = xv)
    (hr : (Builtin.append_ #[t, t] o.type #[v, xv]).run P w = .ok v' w') (h : wpList P ops Q rest (a.put o.dst v') w') : wpList P ops Q (o :: rest) a w := by
  refine wpList_plain hgd fun K hK => ?_
  unfold Oper.wp execOp
  simp only [ho, resolve, invoke, builtin, Sem.run_bind, Sem.run_pure, Result.andThen_ok, List.map_toArray, List.map_cons, List.map_nil, hs, hx, hr]
  exact hK _ _ h
/-- Of block b the cell o alone has turned, and the row behind it. -/
structure Tn (b o : Nat) (sv sv' : Value) (w w' : World) : Prop where
  c : w'.cell? ⟨b, o, none⟩ = some sv'
  oth : ∀ j, j ≠ o → w'.cell? ⟨b, j, none⟩ = w.cell? ⟨b, j, none⟩
  fz : ∀ j, w'.frozen? ⟨b, j, none⟩ = w.frozen? ⟨b, j, none⟩
  mv : Mv (fun k => k = b ∨ nb sv = some k) w w'
  nbs : nb sv' = nb sv ∨ ∃ k, nb sv' = some k ∧ w.heap.size ≤ k
theorem Tn.make {b o : Nat} {sv sv' : Value} {w w4 : World} (hc : w.cell? ⟨b, o, none⟩ = some sv) (hnb : nb sv ≠ some b) (mv4 : Mv (fun k => nb sv = some k) w w4) (nbs : nb sv' = nb sv ∨ ∃ k, nb sv' = some k ∧ w.heap.size ≤ k) : Tn b o sv sv' w (w4.setCell ⟨b, o, none⟩ sv') := by
  have hb := cell_lt hc
  have e4 : w4.heap[b]? = w.heap[b]? := mv4.block b hb (fun h => hnb h)
  have hcl : ∀ j, w4.cell? ⟨b, j, none⟩ = w.cell? ⟨b, j, none⟩ := fun j => World.cell?_of_block e4
  refine ⟨World.cell?_setCell_same' _ _ _ (by rw [hcl, hc]; rfl), fun j hj => ?_, fun j => ?_, (mv4.mono (fun k _ e => .inr e)).setc (p := ⟨b, o, none⟩) (.inl (.inl rfl)) _, nbs⟩
  · rw [World.cell?_setCell_other _ _ _ _ (by simp; try exact hj)]; exact hcl j
  · rw [World.frozen?_setCell]; unfold World.frozen?; rw [e4]
theorem QS.set {w : World} {v : Value} {xs : List Pr} {b o : Nat} (h : QS w v xs) (hb : nb v ≠ some b) (u : Value) : QS (w.setCell ⟨b, o, none⟩ u) v xs :=
  h.mv (E := fun k => k = b) ((Mv.refl (fun k => k = b) _).setc (p := ⟨b, o, none⟩) (.inl rfl) _) (fun k hk e => hb (by rw [hk, e]))
theorem Tn.below {b o : Nat} {sv sv' : Value} {w w5 w6 : World} (h : Tn b o sv sv' w w5) (hb : b < w.heap.size) (B : Below w.heap.size w5 w6) : Tn b o sv sv' w w6 := by
  have e : w6.heap[b]? = w5.heap[b]? := B.block b hb
  have hcl : ∀ j, w6.cell? ⟨b, j, none⟩ = w5.cell? ⟨b, j, none⟩ := fun j => World.cell?_of_block e
  refine ⟨(hcl o).trans h.c, fun j hj => (hcl j).trans (h.oth j hj), fun j => ?_, ⟨B.os.trans h.mv.os, B.tape.trans h.mv.tape, B.output.trans h.mv.output, Nat.le_trans h.mv.size B.size, fun k hk hE => (B.block k hk).trans (h.mv.block k hk hE)⟩, h.nbs⟩
  rw [← h.fz j]; unfold World.frozen?; rw [e]
end Go.Proofs.Ytppbdamlhcmlcaa
