/- GroupPlays: the code's groups beside the reference's, in memory. -/
import Derived.Test.YtfmceioiglmepaaGW
import Derived.Test.YtfmceioiglmepaaRG3
import Derived.Test.YtfmceioiglmepaaGL2
import Derived.Test.YtfmceioiglmepaaGK
namespace Go.Proofs.Ytfmceioiglmepaa
open Go.RowKit Go.Shelf Go.Lib Go.Sort
def allR (R : Rt) (k : Nat) : Prop := hasR R k ∨ ∃ x ∈ R.l, nb x.v = some k
theorem Rs.ltA {W : World} {R : Rt} (h : Rs W R) {k : Nat} (hk : allR R k) : k < W.heap.size := by
  rcases hk with q | ⟨x, hx, q⟩
  · exact h.lt q
  · exact ((h.ps x hx).2 k q).1
theorem wf_note {l : Gl} {ns : List ByteArray} (w : Wf l ns) (a : Int) : Wf (gonL l a) (gonN l ns a) := by
  have h := w.gon a
  refine ⟨h.names, h.nd, h.one, h.rng, h.sz, ?_⟩
  unfold gonN
  cases hm l a with
  | none => exact w.nn
  | some g =>
    simp only
    split
    · unfold noteP
      split
      · exact w.nn
      · rename_i q
        refine List.nodup_append.2 ⟨w.nn, by simp, fun x hx y hy e => ?_⟩
        have : y = g.name := by simpa using hy
        exact q (inN_iff.2 (by rw [← this, ← e]; exact hx))
    · exact w.nn
/-- Both, in memory; l and ns: what the reference stands for. -/
structure Lg (w : World) (bt rb C : Nat) (l : Gl) (ns : List ByteArray) (n : Nat) (S : St) (R : Rt) (W : World) : Prop where
  f : Fr w S W
  bt : S.bt = bt
  rb : R.b = rb
  r : Rs W R
  a : Ag l ns R
  d : ∀ k, allR R k → w.heap.size ≤ k ∧ ¬ hasB S k
  b : Bd R n
  c : W.cell? ⟨C, 0, none⟩ = some (.pointer (some ⟨R.b, 0, none⟩))
  cx : w.heap.size ≤ C ∧ ¬ hasB S C ∧ ¬ allR R C
theorem Lg.below {w W W' : World} {bt rb C n : Nat} {l : Gl} {ns : List ByteArray} {S : St} {R : Rt} (h : Lg w bt rb C l ns n S R W) (b : Below W.heap.size W W') : Lg w bt rb C l ns n S R W' :=
  ⟨h.f.below b, h.bt, h.rb, h.r.below b, h.a, h.d, h.b, (Mv.below (E := fun _ => False) b).cell (a := ⟨C, 0, none⟩) (fun h => h) h.c, h.cx⟩
theorem Lg.code {w W W' : World} {bt rb C n m : Nat} {l : Gl} {ns : List ByteArray} {S S' : St} {R : Rt} (h : Lg w bt rb C l ns n S R W) (g : Goes S W S' W' m) : Lg w bt rb C l ns n S' R W' :=
  ⟨h.f.step g, g.bt.trans h.bt, h.rb, h.r.mv g.mv (fun k hk => (h.d k (.inl hk)).2) (fun x hx k hk => (h.d k (.inr ⟨x, hx, hk⟩)).2), h.a, fun k hk => ⟨(h.d k hk).1, (g.beside (h.r.ltA hk) (h.d k hk).2).2⟩, h.b, g.mv.cell (a := ⟨C, 0, none⟩) h.cx.2.1 h.c, h.cx.1, (g.beside (cell_lt h.c) h.cx.2.1).2, h.cx.2.2⟩
theorem Lg.ref {w W W' : World} {bt rb C n m : Nat} {l l' : Gl} {ns ns' : List ByteArray} {S : St} {R R' : Rt} (h : Lg w bt rb C l ns n S R W) (g : RGoes R W R' W') (hb : Bd R' m) (ha : Ag l' ns' R') : Lg w bt rb C l' ns' m S R' W' := by
  have hal : ∀ k, allR R' k → allR R k ∨ W.heap.size ≤ k := fun k hk => by
    rcases hk with q | ⟨x, hx, q⟩
    · exact (g.gr k q).imp .inl id
    · exact (g.al x hx k q).imp (fun ⟨y, hy, e⟩ => .inr ⟨y, hy, e⟩) id
  refine ⟨⟨h.f.g.mv g.mv (fun k hk e => (h.d k (.inl e)).2 hk), h.f.b.trans (g.mv.toBelow h.f.b.size (fun k hk e => by have := (h.d k (.inl e)).1; omega)), h.f.n⟩, h.bt, g.b.trans h.rb, g.r, ha, fun k hk => ?_, hb, by rw [g.b]; exact g.mv.cell (a := ⟨C, 0, none⟩) (fun e => h.cx.2.2 (.inl e)) h.c, h.cx.1, h.cx.2.1, fun e => ?_⟩
  · rcases hal k hk with q | q
    · exact h.d k q
    · exact ⟨Nat.le_trans h.f.b.size q, fun e => by have := h.f.g.lt e; omega⟩
  · rcases hal C e with q | q
    · exact h.cx.2.2 q
    · have := cell_lt h.c; simp only at this; omega
/-- Two cells of the law's own turn. -/
theorem Lg.two {w W W' : World} {bt rb C n A B : Nat} {l : Gl} {ns : List ByteArray} {S : St} {R : Rt} (h : Lg w bt rb C l ns n S R W) (m : Mv (fun k => k = A ∨ k = B) W W') (hA : w.heap.size ≤ A ∧ w.heap.size ≤ B) (h1 : ∀ k, hasB S k → k ≠ A ∧ k ≠ B) (h2 : ∀ k, allR R k → k ≠ A ∧ k ≠ B) (h3 : C ≠ A ∧ C ≠ B) : Lg w bt rb C l ns n S R W' := by
  have off : ∀ {k}, k ≠ A ∧ k ≠ B → ¬ (k = A ∨ k = B) := fun {k} q e => by rcases e with e | e; exact q.1 e; exact q.2 e
  exact ⟨⟨h.f.g.mv m (fun k hk => off (h1 k hk)), h.f.b.trans (m.toBelow h.f.b.size (fun k hk e => by rcases e with e | e <;> omega)), h.f.n⟩, h.bt, h.rb, h.r.mv m (fun k hk => off (h2 k (.inl hk))) (fun x hx k hk => off (h2 k (.inr ⟨x, hx, hk⟩))), h.a, h.d, h.b, m.cell (a := ⟨C, 0, none⟩) (off h3) h.c, h.cx⟩
/-- A step's three cells. -/
structure D3 (D : Nat) (what pid : Int) (nm : ByteArray) (W : World) : Prop where
  c0 : W.cell? ⟨D, 0, none⟩ = some (.int .i64 what)
  c1 : W.cell? ⟨D, 1, none⟩ = some (.int .i64 pid)
  c2 : W.cell? ⟨D, 2, none⟩ = some (.string nm)
theorem D3.mv {D : Nat} {what pid : Int} {nm : ByteArray} {W V : World} {E : Nat → Prop} (h : D3 D what pid nm W) (m : Mv E W V) (hE : ¬ E D) : D3 D what pid nm V := ⟨m.cell (a := ⟨D, 0, none⟩) hE h.c0, m.cell (a := ⟨D, 1, none⟩) hE h.c1, m.cell (a := ⟨D, 2, none⟩) hE h.c2⟩
theorem D3.below {D : Nat} {what pid : Int} {nm : ByteArray} {W V : World} (h : D3 D what pid nm W) (b : Below W.heap.size W V) : D3 D what pid nm V := h.mv (E := fun _ => False) (Mv.below b) (fun h => h)
/-- Both and the step; D lies beside them. -/
structure Lx (w : World) (bt rb C D : Nat) (what pid : Int) (nm : ByteArray) (l : Gl) (ns : List ByteArray) (n m : Nat) (S : St) (R : Rt) (W : World) : Prop where
  l : Lg w bt rb C l ns n S R W
  c : S.c ≤ m
  d : D3 D what pid nm W
  x : ¬ hasB S D ∧ ¬ allR R D
theorem Lx.below {w W W' : World} {bt rb C D n m : Nat} {what pid : Int} {nm : ByteArray} {l : Gl} {ns : List ByteArray} {S : St} {R : Rt} (h : Lx w bt rb C D what pid nm l ns n m S R W) (b : Below W.heap.size W W') : Lx w bt rb C D what pid nm l ns n m S R W' := ⟨h.l.below b, h.c, h.d.below b, h.x⟩
theorem Lx.code {w W W' : World} {bt rb C D n m e : Nat} {what pid : Int} {nm : ByteArray} {l : Gl} {ns : List ByteArray} {S S' : St} {R : Rt} (h : Lx w bt rb C D what pid nm l ns n m S R W) (g : Goes S W S' W' e) : Lx w bt rb C D what pid nm l ns n (m + e) S' R W' :=
  ⟨h.l.code g, by have := g.c; have := h.c; omega, h.d.mv g.mv h.x.1, (g.beside (cell_lt h.d.c0) h.x.1).2, h.x.2⟩
theorem Lx.ref {w W W' : World} {bt rb C D n m n' : Nat} {what pid : Int} {nm : ByteArray} {l l' : Gl} {ns ns' : List ByteArray} {S : St} {R R' : Rt} (h : Lx w bt rb C D what pid nm l ns n m S R W) (g : RGoes R W R' W') (hb : Bd R' n') (ha : Ag l' ns' R') : Lx w bt rb C D what pid nm l' ns' n' m S R' W' := by
  refine ⟨h.l.ref g hb ha, h.c, h.d.mv g.mv (fun e => h.x.2 (.inl e)), h.x.1, fun e => ?_⟩
  have hlt := cell_lt h.d.c0
  simp only at hlt
  rcases e with q | ⟨x, hx, q⟩
  · rcases g.gr D q with r | r
    · exact h.x.2 (.inl r)
    · omega
  · rcases g.al x hx D q with ⟨y, hy, r⟩ | r
    · exact h.x.2 (.inr ⟨y, hy, r⟩)
    · omega
end Go.Proofs.Ytfmceioiglmepaa
