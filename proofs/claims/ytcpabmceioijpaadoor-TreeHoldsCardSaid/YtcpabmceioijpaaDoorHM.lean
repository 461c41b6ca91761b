/- TreeHolds: in memory. -/
import Derived.Test.YtcpabmceioijpaaDoorHP
namespace Go.Proofs.YtcpabmceioijpaaDoor
open Go.RowKit Go.Shelf
/-- Six cells. -/
def Arr (W : World) (b : Nat) (f : Nat → Value) : Prop := ∀ k, k < 6 → W.cell? ⟨b, k, none⟩ = some (f k) ∧ W.frozen? ⟨b, k, none⟩ = false
theorem Arr.lt {W : World} {b : Nat} {f : Nat → Value} (h : Arr W b f) : b < W.heap.size := cell_lt (h 0 (by omega)).1
theorem Arr.mv {W W' : World} {b : Nat} {f : Nat → Value} {E : Nat → Prop} (h : Arr W b f) (m : Mv E W W') (hE : ¬ E b) : Arr W' b f :=
  fun k hk => ⟨m.cell (a := ⟨b, k, none⟩) hE (h k hk).1, (m.froz (a := ⟨b, k, none⟩) hE h.lt).trans (h k hk).2⟩
theorem Arr.set {W : World} {b : Nat} {f : Nat → Value} (h : Arr W b f) (k : Nat) (v : Value) : Arr (W.setCell ⟨b, k, none⟩ v) b (upT f k v) := fun j hj => by
  refine ⟨?_, by rw [World.frozen?_setCell]; exact (h j hj).2⟩
  unfold upT
  by_cases e : j = k
  · subst e
    rw [if_pos rfl]
    exact World.cell?_setCell_same' _ _ _ (by rw [(h j hj).1]; rfl)
  · rw [if_neg e, World.cell?_setCell_other _ _ _ _ (by simp; try exact e)]
    exact (h j hj).1
theorem Arr.cong {W : World} {b : Nat} {f g : Nat → Value} (h : Arr W b f) (hg : ∀ k, k < 6 → g k = f k) : Arr W b g := fun k hk => by rw [hg k hk]; exact h k hk
theorem notOwn {W : World} {S : St} (h : Ts W S) {N k : Nat} {v : Value} (hc : W.cell? ⟨N, k, none⟩ = some v) : ¬ own S N := by
  obtain ⟨m, _, q⟩ := h.hm
  obtain ⟨m2, f2, _, q2, _⟩ := h.sm
  rintro (e | e)
  · exact q.notCell hc e
  · exact q2.notCell hc e
structure Lt (w : World) (N U A B : Nat) (th fd : Nat → Bool) (S : St) (W : World) : Prop where
  f : Fr w S W
  n : Arr W N (fun k => .string (nh k))
  u : Arr W U (fun k => .int .i64 (uI k))
  a : Arr W A (fun k => .bool (th k))
  b : Arr W B (fun k => .bool (fd k))
  ax : A ≠ S.bt ∧ A ≠ 0 ∧ A ≠ N ∧ A ≠ U ∧ A ≠ B ∧ w.heap.size ≤ A
  bx : B ≠ S.bt ∧ B ≠ 0 ∧ B ≠ N ∧ B ≠ U ∧ w.heap.size ≤ B
theorem Lt.step {w W W' : World} {N U A B : Nat} {th fd : Nat → Bool} {S : St} {P : Pl} {d : Nat} (h : Lt w N U A B th fd S W) (g : Goes S W P d W') : Lt w N U A B th fd { S with p := P, c := S.c + d } W' :=
  ⟨h.f.step g, h.n.mv g.m (notOwn h.f.g (h.n 0 (by omega)).1), h.u.mv g.m (notOwn h.f.g (h.u 0 (by omega)).1), h.a.mv g.m (notOwn h.f.g (h.a 0 (by omega)).1), h.b.mv g.m (notOwn h.f.g (h.b 0 (by omega)).1), h.ax, h.bx⟩
theorem Lt.below {w W W' : World} {N U A B : Nat} {th fd : Nat → Bool} {S : St} (h : Lt w N U A B th fd S W) (b : Below W.heap.size W W') : Lt w N U A B th fd S W' :=
  have m : Mv (fun _ => False) W W' := Mv.below b
  ⟨h.f.below b, h.n.mv m (fun h => h), h.u.mv m (fun h => h), h.a.mv m (fun h => h), h.b.mv m (fun h => h), h.ax, h.bx⟩
/-- Another block turns. -/
theorem Lt.other {w W W' : World} {N U A B D : Nat} {th fd : Nat → Bool} {S : St} (h : Lt w N U A B th fd S W) (m : Mv (fun k => k = D) W W') (hb : ∀ k, hasB S k → k ≠ D) (h1 : N ≠ D ∧ U ≠ D ∧ A ≠ D ∧ B ≠ D) (hD : w.heap.size ≤ D) : Lt w N U A B th fd S W' :=
  ⟨⟨h.f.g.mv m hb, h.f.b.trans (m.toBelow h.f.b.size (fun x hx e => by omega)), h.f.nt, h.f.nh, h.f.ns⟩, h.n.mv m h1.1, h.u.mv m h1.2.1, h.a.mv m h1.2.2.1, h.b.mv m h1.2.2.2, h.ax, h.bx⟩
theorem Fr.one {w W W' : World} {S : St} {D : Nat} (h : Fr w S W) (m : Mv (fun k => k = D) W W') (hD : w.heap.size ≤ D) (h1 : D ≠ S.bt) (h2 : D ≠ 0) (h3 : ¬ own S D) : Fr w S W' :=
  ⟨h.g.mv m (fun k hk e => by
    subst e
    rcases hk with q | q | q | q
    · exact h1 q
    · exact h3 (.inl q)
    · exact h3 (.inr q)
    · exact h2 q), h.b.trans (m.toBelow h.b.size (fun x hx e => by omega)), h.nt, h.nh, h.ns⟩
theorem Lt.setA {w W : World} {N U A B : Nat} {th fd : Nat → Bool} {S : St} (h : Lt w N U A B th fd S W) (k : Nat) (v : Bool) : Lt w N U A B (upT th k v) fd S (W.setCell ⟨A, k, none⟩ (.bool v)) := by
  have m : Mv (fun x => x = A) W (W.setCell ⟨A, k, none⟩ (.bool v)) := (Mv.refl (fun x => x = A) W).setc (p := ⟨A, k, none⟩) (.inl rfl) _
  obtain ⟨a1, a2, a3, a4, a5, a6⟩ := h.ax
  refine ⟨h.f.one m a6 a1 a2 (notOwn h.f.g (h.a 0 (by omega)).1), h.n.mv m (Ne.symm a3), h.u.mv m (Ne.symm a4), (h.a.set k (.bool v)).cong (fun j hj => ?_), h.b.mv m (Ne.symm a5), h.ax, h.bx⟩
  unfold upT
  split <;> rfl
theorem Lt.setB {w W : World} {N U A B : Nat} {th fd : Nat → Bool} {S : St} (h : Lt w N U A B th fd S W) (k : Nat) (v : Bool) : Lt w N U A B th (upT fd k v) S (W.setCell ⟨B, k, none⟩ (.bool v)) := by
  have m : Mv (fun x => x = B) W (W.setCell ⟨B, k, none⟩ (.bool v)) := (Mv.refl (fun x => x = B) W).setc (p := ⟨B, k, none⟩) (.inl rfl) _
  obtain ⟨a1, a2, a3, a4, a6⟩ := h.bx
  refine ⟨h.f.one m a6 a1 a2 (notOwn h.f.g (h.b 0 (by omega)).1), h.n.mv m (Ne.symm a3), h.u.mv m (Ne.symm a4), h.a.mv m h.ax.2.2.2.2.1, (h.b.set k (.bool v)).cong (fun j hj => ?_), h.ax, h.bx⟩
  unfold upT
  split <;> rfl
/-- Between two rounds. -/
def LtI (w : World) (N U A B : Nat) (S : St) (n : Nat) (W : World) : Prop := ∃ th fd P d, Lt w N U A B th fd { S with p := P, c := S.c + d } W ∧ HI th fd P ∧ d ≤ n
/-- Within a round, ahead of its step; D: the stamps as they were. -/
structure LtW (w : World) (N U A B D : Nat) (th fd : Nat → Bool) (S : St) (P : Pl) (d n : Nat) (W : World) : Prop where
  l : Lt w N U A B th fd { S with p := P, c := S.c + d } W
  h : HI th fd P
  d : d ≤ n
  x : (∀ k, hasB S k → k ≠ D) ∧ N ≠ D ∧ U ≠ D ∧ A ≠ D ∧ B ≠ D ∧ w.heap.size ≤ D
/-- Behind its step. -/
def LtX (w : World) (N U A B D : Nat) (S : St) (P : Pl) (k : Nat) (dn both : Bool) (n : Nat) (W : World) : Prop :=
  ∃ th fd P' d, LtW w N U A B D th fd S P' d n W ∧ Arr W D (fun j => .int .i64 (P.st (nh j))) ∧ HS P P' k dn both
theorem LtW.arr {w W W' : World} {N U A B D : Nat} {th fd : Nat → Bool} {S : St} {P : Pl} {d n : Nat} (h : LtW w N U A B D th fd S P d n W) {P' : Pl} {e : Nat} (g : Goes { S with p := P, c := S.c + d } W P' e W') {f : Nat → Value} (a : Arr W D f) : Arr W' D f := a.mv g.m (fun q => by
  rcases q with q | q
  · exact h.x.1 S.bh (.inr (.inl rfl)) q.symm
  · exact h.x.1 S.bs (.inr (.inr (.inl rfl))) q.symm)
end Go.Proofs.YtcpabmceioijpaaDoor
