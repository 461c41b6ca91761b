/- GroupOne: where the law stands. -/
import Derived.Test.YtjjffcgklhclgaaLO1
import Derived.Test.YtjjffcgklhclgaaGL
namespace Go.Proofs.Ytjjffcgklhclgaa
open Go.RowKit Go.Shelf Go.Lib
/-- The four names. -/
def Nm4 (W : World) (A : Nat) : Prop := ∀ k, k < 4 → W.cell? ⟨A, k, none⟩ = some (.string (nm k))
theorem Nm4.blk {W W' : World} {A : Nat} (h : Nm4 W A) (e : W'.heap[A]? = W.heap[A]?) : Nm4 W' A := fun k hk => by rw [World.cell?_of_block e]; exact h k hk
theorem Nm4.lt {W : World} {A : Nat} (h : Nm4 W A) : A < W.heap.size := cell_lt (h 0 (by omega))
/-- Whose each is. -/
def Of10 (W : World) (O : Nat) (f : Nat → Nat) : Prop := ∀ q, q < 10 → W.cell? ⟨O, q, none⟩ = some (.int .i64 (f q : Nat)) ∧ W.frozen? ⟨O, q, none⟩ = false
theorem Of10.blk {W W' : World} {O : Nat} {f : Nat → Nat} (h : Of10 W O f) (e : W'.heap[O]? = W.heap[O]?) : Of10 W' O f := fun k hk => by
  rw [World.cell?_of_block e]
  refine ⟨(h k hk).1, ?_⟩
  have := (h k hk).2
  unfold World.frozen? at this ⊢
  rw [e]; exact this
theorem Of10.lt {W : World} {O : Nat} {f : Nat → Nat} (h : Of10 W O f) : O < W.heap.size := cell_lt (h 0 (by omega)).1
theorem Of10.set {W : World} {O : Nat} {f : Nat → Nat} (h : Of10 W O f) {p : Nat} (hp : p < 10) (v : Nat) : Of10 (W.setCell ⟨O, p, none⟩ (.int .i64 (v : Nat))) O (upd f p v) := fun j hj => by
  refine ⟨?_, by rw [World.frozen?_setCell]; exact (h j hj).2⟩
  by_cases e : j = p
  · subst e
    rw [upd_same]
    exact World.cell?_setCell_same' _ _ _ (by rw [(h j hj).1]; rfl)
  · rw [upd_ne _ _ e, World.cell?_setCell_other _ _ _ _ (by simp; try exact e)]
    exact (h j hj).1
structure La (w : World) (b A : Nat) (S : St) (W : World) : Prop where
  f : Fr w S W
  bt : S.bt = b
  a : Nm4 W A
  ab : ¬ hasB S A
  aw : w.heap.size ≤ A
theorem La.step {w W W' : World} {b A : Nat} {S S' : St} {d : Nat} (h : La w b A S W) (k : Goes S W S' W' d) : La w b A S' W' :=
  have q := k.beside h.a.lt h.ab
  ⟨h.f.step k, k.bt.trans h.bt, h.a.blk q.1, q.2, h.aw⟩
theorem La.below {w W W' : World} {b A : Nat} {S : St} (h : La w b A S W) (k : Below W.heap.size W W') : La w b A S W' := h.step (Goes.below h.f.g k)
structure Lo (w : World) (b A O : Nat) (f : Nat → Nat) (S : St) (W : World) : Prop where
  l : La w b A S W
  o : Of10 W O f
  ob : ¬ hasB S O
  ow : w.heap.size ≤ O
  ao : A ≠ O
theorem Lo.step {w W W' : World} {b A O : Nat} {f : Nat → Nat} {S S' : St} {d : Nat} (h : Lo w b A O f S W) (k : Goes S W S' W' d) : Lo w b A O f S' W' :=
  have q := k.beside h.o.lt h.ob
  ⟨h.l.step k, h.o.blk q.1, q.2, h.ow, h.ao⟩
theorem Lo.below {w W W' : World} {b A O : Nat} {f : Nat → Nat} {S : St} (h : Lo w b A O f S W) (k : Below W.heap.size W W') : Lo w b A O f S W' := h.step (Goes.below h.l.f.g k)
theorem Lo.set {w W : World} {b A O : Nat} {f : Nat → Nat} {S : St} (h : Lo w b A O f S W) {p : Nat} (hp : p < 10) (v : Nat) : Lo w b A O (upd f p v) S (W.setCell ⟨O, p, none⟩ (.int .i64 (v : Nat))) := by
  have m : Mv (fun k => k = O) W (W.setCell ⟨O, p, none⟩ (.int .i64 (v : Nat))) := (Mv.refl (fun k => k = O) _).setc (p := ⟨O, p, none⟩) (.inl rfl) _
  exact ⟨⟨⟨h.l.f.g.mv m (fun k hk e => h.ob (e ▸ hk)), h.l.f.b.trans (m.toBelow h.l.f.b.size (fun x hx q => by have := h.ow; omega)), h.l.f.n⟩, h.l.bt, h.l.a.blk (m.block A h.l.a.lt h.ao), h.l.ab, h.l.aw⟩, h.o.set hp v, h.ob, h.ow, h.ao⟩
theorem gone_o {w W : World} {b A O p : Nat} {f : Nat → Nat} {S : St} (h : Lo w b A O f S W) (hp : Po f S.l S.ns) (h2 : 2 ≤ p) (h9 : p < 10) (hf : f p ≤ 4) (hc : S.c ≤ 10000) :
    Calls Try.prog 14 #[.pointer (some ⟨b, 0, none⟩), .int .i64 (p : Nat)] W fun e W' => e = .returned (.bool (decide (0 < f p))) ∧ ∃ S', Lo w b A O f S' W' ∧ Po (upd f p 0) S'.l S'.ns ∧ S'.c ≤ S.c + 1 := by
  have := gone_any S (p : Int) W h.l.f.g (by omega) (by omega) (by omega)
  obtain ⟨h1, h3⟩ := hp.gone h.l.f.g.wf h2 h9 hf
  rw [h.l.bt, h1] at this
  refine this.mono ?_
  rintro e W' ⟨rfl, S', G, l, n⟩
  exact ⟨rfl, S', h.step G, by rw [l, n]; exact h3, G.c⟩
theorem put_o {w W : World} {b A O p k : Nat} {f : Nat → Nat} {S : St} (h : Lo w b A O f S W) (hp : Po f S.l S.ns) (h2 : 2 ≤ p) (h9 : p < 10) (hk : k < 4) (hc : S.c ≤ 10000) :
    Calls Try.prog 12 #[.pointer (some ⟨b, 0, none⟩), .int .i64 (p : Nat), .string (nm k)] W fun e W' => e = .returned (.int .i64 0) ∧ ∃ S', Lo w b A O f S' W' ∧ Po (upd f p (k + 1)) S'.l S'.ns ∧ S'.c ≤ S.c + 2 := by
  have := put_any S (p : Int) (nm k) W h.l.f.g (by rw [nm_size]; omega) (by omega) (by omega)
  obtain ⟨h1, h3⟩ := hp.put h2 h9 hk
  rw [h.l.bt, h1] at this
  refine this.mono ?_
  rintro e W' ⟨rfl, S', G, l, n⟩
  exact ⟨rfl, S', h.step G, by rw [l, n]; exact h3, G.c⟩
theorem members_o {w W : World} {b A O k : Nat} {f : Nat → Nat} {S : St} (h : Lo w b A O f S W) (hp : Po f S.l S.ns) (hk : k < 4) (hc : S.c ≤ 10000) :
    Calls Try.prog 21 #[.pointer (some ⟨b, 0, none⟩), .string (nm k)] W fun e W' => ∃ v, e = .returned v ∧ IR W' v (sel f k) ∧ Below W.heap.size W W' := by
  obtain ⟨g, h1, h2⟩ := hp.q.fnd_some (by omega) hk (ps := sel f k) rfl
  have := members_some S (nm k) g W h.l.f.g (by rw [nm_size]; omega) h1 (by omega)
  rw [h.l.bt, h2] at this
  refine this.mono ?_
  rintro e W' ⟨v, rfl, a, _, b⟩
  exact ⟨v, rfl, a, b⟩
theorem sel_len (f : Nat → Nat) (k : Nat) : (sel f k).length ≤ 8 := by
  unfold sel selN
  rw [List.length_map]
  exact List.length_filter_le _ _
end Go.Proofs.Ytjjffcgklhclgaa
