/- What turns, cell by cell. -/
import Derived.Test.YtedgnigogkmgkaaGreatDoorPM
import Derived.ArgAppend
import Derived.Deep.MidRow
import Derived.Lib.SliceRun
namespace Go.Proofs.YtedgnigogkmgkaaGreatDoor
open Go.RowKit Go.Shelf Go.Lib
/-- What turned: cells of S, and what is new. -/
structure Cv (S : Nat → Nat → Prop) (W V : World) : Prop where
  mv : Mv (fun k => ∃ j, S k j) W V
  ce : ∀ k j, k < W.heap.size → ¬ S k j → V.cell? ⟨k, j, none⟩ = W.cell? ⟨k, j, none⟩
  pr : ∀ k j, k < W.heap.size → (W.cell? ⟨k, j, none⟩).isSome = true → (V.cell? ⟨k, j, none⟩).isSome = true
  fr : ∀ k j, k < W.heap.size → V.frozen? ⟨k, j, none⟩ = W.frozen? ⟨k, j, none⟩
theorem Cv.size {S : Nat → Nat → Prop} {W V : World} (h : Cv S W V) : W.heap.size ≤ V.heap.size := h.mv.size
theorem Cv.below {S : Nat → Nat → Prop} {W V : World} (h : Below W.heap.size W V) : Cv S W V :=
  ⟨Mv.below h, fun k _ hk _ => World.cell?_of_block (h.block k hk), fun k _ hk c => by rw [World.cell?_of_block (h.block k hk)]; exact c, fun k _ hk => by unfold World.frozen?; rw [h.block k hk]⟩
theorem Cv.refl (S : Nat → Nat → Prop) (W : World) : Cv S W W := Cv.below (Below.refl _ _)
theorem Cv.mono {S T : Nat → Nat → Prop} {W V : World} (h : Cv S W V) (g : ∀ k j, k < W.heap.size → S k j → T k j) : Cv T W V :=
  ⟨h.mv.mono fun k hk ⟨j, hj⟩ => ⟨j, g k j hk hj⟩, fun k j hk hn => h.ce k j hk fun s => hn (g k j hk s), h.pr, h.fr⟩
theorem Cv.trans {S T : Nat → Nat → Prop} {A B C : World} (h : Cv S A B) (k : Cv T B C) (g : ∀ k j, T k j → S k j ∨ A.heap.size ≤ k) : Cv S A C :=
  ⟨h.mv.trans (E' := fun k => ∃ j, T k j) (fun b hb => by
      obtain ⟨j, hj⟩ := hb
      exact (g b j hj).imp (fun q => ⟨j, q⟩) id) k.mv,
   fun b j hb hn => (k.ce b j (Nat.lt_of_lt_of_le hb h.size) fun t => (g b j t).elim hn (fun q => by omega)).trans (h.ce b j hb hn),
   fun b j hb c => k.pr b j (Nat.lt_of_lt_of_le hb h.size) (h.pr b j hb c),
   fun b j hb => (k.fr b j (Nat.lt_of_lt_of_le hb h.size)).trans (h.fr b j hb)⟩
theorem Cv.trans' {S : Nat → Nat → Prop} {A B C : World} (h : Cv S A B) (k : Cv S B C) : Cv S A C := h.trans k fun _ _ s => .inl s
theorem Mv.setCells {E : Nat → Prop} {A W : World} {g : Nat} (h : Mv E A W) (hg : E g ∨ A.heap.size ≤ g) : ∀ (vs : List Value) (o : Nat), Mv E A (W.setCells g o vs)
  | [], _ => h
  | v :: r, o => (h.setc (p := ⟨g, o, none⟩) hg v).setCells hg r (o + 1)
theorem Cv.cells (W : World) (g o : Nat) (vs : List Value) : Cv (fun k j => k = g ∧ o ≤ j ∧ j < o + vs.length) W (W.setCells g o vs) := by
  by_cases hv : vs = []
  · subst hv; exact Cv.refl _ _
  · have hp : 0 < vs.length := List.length_pos_iff.2 hv
    refine ⟨(Mv.refl _ W).setCells (.inl ⟨o, rfl, Nat.le_refl _, by omega⟩) _ _, fun k j _ hn => ?_, fun k j _ c => World.isSome_setCells _ _ _ _ _ c, fun k j _ => World.frozen?_setCells ..⟩
    refine World.cell?_setCells_out _ _ _ _ _ fun h1 _ => ?_
    have h1' : k = g := h1
    show j < o ∨ o + vs.length ≤ j
    by_cases h2 : j < o
    · exact .inl h2
    · by_cases h3 : o + vs.length ≤ j
      · exact .inr h3
      · exact absurd ⟨h1', by omega, by omega⟩ hn
theorem Cv.one (W : World) (g o : Nat) (v : Value) : Cv (fun k j => k = g ∧ j = o) W (W.setCell ⟨g, o, none⟩ v) :=
  (Cv.cells W g o [v]).mono fun k j _ h => ⟨h.1, by have := h.2; simp at this; omega⟩
/-- The same, as far as a block is not touched at all. -/
theorem Cv.cell {S : Nat → Nat → Prop} {W V : World} (h : Cv S W V) {k j : Nat} {v : Value} (hn : ¬ S k j) (c : W.cell? ⟨k, j, none⟩ = some v) : V.cell? ⟨k, j, none⟩ = some v := (h.ce k j (cell_lt c) hn).trans c
theorem Cv.next {S : Nat → Nat → Prop} {F : Nat → Prop} {A W V : World} (h : Cv S A W) (m : Mv F W V) (hF : ∀ k, F k → A.heap.size ≤ k) : Cv S A V := by
  have hb : ∀ k, k < A.heap.size → V.heap[k]? = W.heap[k]? := fun k hk => m.block k (Nat.lt_of_lt_of_le hk h.size) fun f => by have := hF k f; omega
  exact ⟨h.mv.trans (E' := F) (fun k f => .inr (hF k f)) m, fun k j hk hn => (World.cell?_of_block (hb k hk)).trans (h.ce k j hk hn), fun k j hk c => by rw [World.cell?_of_block (hb k hk)]; exact h.pr k j hk c, fun k j hk => by have := h.fr k j hk; unfold World.frozen? at this ⊢; rw [hb k hk]; exact this⟩
theorem cells_of {W : World} {b : Nat} {cs : Array Value} {t : TypeId} (h : W.heap[b]? = some (.cells cs t)) {j : Nat} {v : Value} (hj : cs[j]? = some v) : W.cell? ⟨b, j, none⟩ = some v := by
  unfold World.cell?
  rw [h]
  simpa using hj
theorem froz_of {W : World} {b : Nat} {cs : Array Value} {t : TypeId} (h : W.heap[b]? = some (.cells cs t)) {j : Nat} : W.frozen? ⟨b, j, none⟩ = false := by
  unfold World.frozen?
  rw [h]
  simp
theorem bcell {A V : World} {n : Nat} (h : Below n A V) {k j : Nat} {v : Value} (hk : k < n) (c : A.cell? ⟨k, j, none⟩ = some v) : V.cell? ⟨k, j, none⟩ = some v := (World.cell?_of_block (h.block k hk)).trans c
theorem bfroz {A V : World} {n : Nat} (h : Below n A V) {k j : Nat} (hk : k < n) : V.frozen? ⟨k, j, none⟩ = A.frozen? ⟨k, j, none⟩ := by unfold World.frozen?; rw [h.block k hk]
theorem bmv {F : Nat → Prop} {A W V : World} {n : Nat} (h : Below n A W) (hn : n ≤ A.heap.size) (m : Mv F W V) (hF : ∀ k, F k → n ≤ k) : Below n A V := h.trans (m.toBelow (Nat.le_trans hn h.size) fun k hk f => by have := hF k f; omega)
theorem wpList_append_run {P : Program} {w : World} {ops : Array Oper} {rest : List Oper} {o : Oper} {a : Act} {Q : Exit → Act → World → Prop} (hgd : o.guard = none) (s x : Operand) (t : TypeId)
    (ho : o.op = .call { callee := .builtin .append, args := #[s, x], argTypes := #[t, t] }) (v xv v' : Value) (w' : World) (hs : a.eval s = v) (hx : a.eval x = xv)
    (hr : (Builtin.append_ #[t, t] o.type #[v, xv]).run P w = .ok v' w') (h : wpList P ops Q rest (a.put o.dst v') w') : wpList P ops Q (o :: rest) a w := by
  refine wpList_plain hgd fun K hK => ?_
  unfold Oper.wp execOp
  simp only [ho, resolve, invoke, builtin, Sem.run_bind, Sem.run_pure, Result.andThen_ok, List.map_toArray, List.map_cons, List.map_nil, hs, hx, hr]
  exact hK _ _ h
theorem wpListIn_append_run {F : Fence} {n : Nat} {P : Program} {w : World} {ops : Array Oper} {rest : List Oper} {o : Oper} {a : Act} {Q : Exit → Act → World → Prop} (hg : o.guard = none) (s x : Operand) (t : TypeId)
    (hop : o.op = .call { callee := .builtin .append, args := #[s, x], argTypes := #[t, t] }) (v xv v' : Value) (w' : World) (hs : a.eval s = v) (hx : a.eval x = xv)
    (hrun : (Builtin.append_ #[t, t] o.type #[v, xv]).run P w = .ok v' w') (h : wpListIn F n P ops Q rest (a.put o.dst v') w') : wpListIn F n P ops Q (o :: rest) a w := by
  refine wpListIn_plain hg fun K hK' => ?_
  unfold Oper.wpIn
  refine ⟨?_, ?_⟩
  · simp [Oper.about, hop, resolve, Target.leads, Sem.run_pure]
  · rw [Oper.semAt_plain F _ _ (by rw [hop]; intro c hc'; cases hc')]
    simp [execOp, hop, resolve, invoke, builtin, hs, hx, hrun, Result.andThen]
    exact hK' _ _ h
/-- The first k with their places, from the end on. -/
def bk {α : Type} (l : List α) : Nat → List (Nat × α)
  | 0 => []
  | k + 1 => match l[k]? with
    | some x => (k, x) :: bk l k
    | none => bk l k
theorem bk_succ {α : Type} {l : List α} {k : Nat} {x : α} (h : l[k]? = some x) : bk l (k + 1) = (k, x) :: bk l k := by simp [bk, h]
theorem bk_mem {α : Type} {l : List α} : ∀ {k : Nat} {p : Nat × α}, p ∈ bk l k → l[p.1]? = some p.2
  | 0, _, h => by cases h
  | k + 1, p, h => by
    unfold bk at h
    split at h
    · next x hx =>
      rcases List.mem_cons.1 h with rfl | h
      · exact hx
      · exact bk_mem h
    · exact bk_mem h
theorem bk_cons {α : Type} {l : List α} {k : Nat} (hk : k ≤ l.length) {i : Nat} {x : α} {rest : List (Nat × α)} (h : bk l k = (i, x) :: rest) : k = i + 1 ∧ l[i]? = some x ∧ rest = bk l i := by
  cases k with
  | zero => cases h
  | succ m =>
    obtain ⟨y, hy⟩ : ∃ y, l[m]? = some y := ⟨_, List.getElem?_eq_getElem (by omega)⟩
    rw [bk_succ hy] at h
    injection h with h1 h2
    injection h1 with h3 h4
    subst h3; subst h4
    exact ⟨rfl, hy, h2.symm⟩
theorem bk_nil {α : Type} {l : List α} {k : Nat} (hk : k ≤ l.length) (h : bk l k = []) : k = 0 := by
  cases k with
  | zero => rfl
  | succ m =>
    obtain ⟨y, hy⟩ : ∃ y, l[m]? = some y := ⟨_, List.getElem?_eq_getElem (by omega)⟩
    rw [bk_succ hy] at h
    cases h
def nbk : Value → Option Nat
  | .slice (some a) _ _ => some a.block
  | _ => none
attribute [local go_sem] Oper.semAt_some
theorem step_append_run {P : Program} {w : World} {ops : Array Oper} {o : Oper} {a : Act} {K : Act → World → Prop} {Q : Exit → Act → World → Prop} {E : Prop} (hgd : o.guard = none) (s x : Operand) (t : TypeId)
    (ho : o.op = .call { callee := .builtin .append, args := #[s, x], argTypes := #[t, t] }) (v xv v' : Value) (w' : World) (hs : a.eval s = v) (hx : a.eval x = xv)
    (hr : (Builtin.append_ #[t, t] o.type #[v, xv]).run P w = .ok v' w') (h : K (a.put o.dst v') w') : if Region.wanted o (yielded ops a.tmps) = true then Oper.wp P o a w K Q else E := by
  have hw : Region.wanted o (yielded ops a.tmps) = true := by simp [Region.wanted, hgd]
  rw [if_pos hw]
  unfold Oper.wp execOp
  simp only [ho, resolve, invoke, builtin, Sem.run_bind, Sem.run_pure, Result.andThen_ok, List.map_toArray, List.map_cons, List.map_nil, hs, hx, hr]
  exact h
end Go.Proofs.YtedgnigogkmgkaaGreatDoor
