/- GroupNotes: where the law stands. -/
import Derived.Test.YtjjffcgklhclgaaGN
namespace Go.Proofs.Ytjjffcgklhclgaa
open Go.RowKit Go.Shelf
/-- The marks. -/
def Dn (W : World) (D : Nat) (dn : Nat → Bool) : Prop := ∀ k, k < 8 → W.cell? ⟨D, k, none⟩ = some (.bool (dn k)) ∧ W.frozen? ⟨D, k, none⟩ = false
theorem Dn.blk {W W' : World} {D : Nat} {dn : Nat → Bool} (h : Dn W D dn) (e : W'.heap[D]? = W.heap[D]?) : Dn W' D dn := fun k hk => by
  rw [World.cell?_of_block e]
  refine ⟨(h k hk).1, ?_⟩
  have := (h k hk).2
  unfold World.frozen? at this ⊢
  rw [e]; exact this
theorem Dn.lt {W : World} {D : Nat} {dn : Nat → Bool} (h : Dn W D dn) : D < W.heap.size := cell_lt (h 0 (by omega)).1
theorem Dn.set {W : World} {D : Nat} {dn : Nat → Bool} (h : Dn W D dn) {k : Nat} (hk : k < 8) (b : Bool) : Dn (W.setCell ⟨D, k, none⟩ (.bool b)) D (upd dn k b) := fun j hj => by
  refine ⟨?_, by rw [World.frozen?_setCell]; exact (h j hj).2⟩
  by_cases e : j = k
  · subst e
    rw [upd_same]
    exact World.cell?_setCell_same' _ _ _ (by rw [(h j hj).1]; rfl)
  · rw [upd_ne _ _ e, World.cell?_setCell_other _ _ _ _ (by simp; try exact e)]
    exact (h j hj).1
structure Ls (w : World) (b D : Nat) (dn : Nat → Bool) (S : St) (W : World) : Prop where
  f : Fr w S W
  bt : S.bt = b
  d : Dn W D dn
  db : ¬ hasB S D
  dw : w.heap.size ≤ D
theorem Ls.step {w W W' : World} {b D : Nat} {dn : Nat → Bool} {S S' : St} {d : Nat} (h : Ls w b D dn S W) (k : Goes S W S' W' d) : Ls w b D dn S' W' :=
  have q := k.beside h.d.lt h.db
  ⟨h.f.step k, k.bt.trans h.bt, h.d.blk q.1, q.2, h.dw⟩
/-- Where the marks or what is new alone turns. -/
theorem Ls.mv {w W W' : World} {b D : Nat} {dn dn' : Nat → Bool} {S : St} {E : Nat → Prop} (h : Ls w b D dn S W) (m : Mv E W W') (hE : ∀ k, E k → ¬ hasB S k ∧ w.heap.size ≤ k) (hd : Dn W' D dn') : Ls w b D dn' S W' :=
  ⟨⟨h.f.g.mv m (fun k hk e => (hE k e).1 hk), h.f.b.trans (m.toBelow h.f.b.size (fun x hx q => by have := (hE x q).2; omega)), h.f.n⟩, h.bt, hd, h.db, h.dw⟩
/-- The law's own row. -/
structure Nt (w : World) (D : Nat) (v : Value) (E : List Nat) (S : St) (W : World) : Prop where
  n : NS W v (E.map nm)
  b : ∀ k, nb v = some k → ¬ hasB S k ∧ k ≠ D ∧ w.heap.size ≤ k
theorem Nt.step {w W W' : World} {D : Nat} {v : Value} {E : List Nat} {S S' : St} {d : Nat} (h : Nt w D v E S W) (k : Goes S W S' W' d) : Nt w D v E S' W' :=
  ⟨h.n.mv k.mv (fun x hx => (h.b x hx).1), fun x hx => ⟨(k.beside (h.n.lt hx) (h.b x hx).1).2, (h.b x hx).2⟩⟩
theorem Nt.nil (w : World) (D : Nat) (S : St) (W : World) : Nt w D (.slice none 0 0) [] S W := ⟨.inl ⟨rfl, rfl⟩, fun k hk => by cases hk⟩
/-- How it stands with each name: marked or not, what the two numbers say. -/
def fN (ag rm dn : Nat → Bool) (k : Nat) : Option (List Int) :=
  if dn k then (if ag k then some [(k : Int) + 20] else if rm k then none else some []) else some [(k : Int) + 2]
def f1 (j : Nat) (k : Nat) : Option (List Int) := if k < j then some [(k : Int) + 2] else none
structure Pn (ag rm dn : Nat → Bool) (N E : List Nat) (S : St) : Prop where
  q : Q 8 (fN ag rm dn) S.l
  ns : S.ns = N.map nm
  nk : ∀ k ∈ N, k < 8 ∧ dn k = true
  e : N.filter (fun k => decide ((fN ag rm dn k).getD [] = [])) = E
end Go.Proofs.Ytjjffcgklhclgaa
