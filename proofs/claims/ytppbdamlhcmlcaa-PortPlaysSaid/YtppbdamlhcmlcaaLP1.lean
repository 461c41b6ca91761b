/- PortPlays: the code's ports beside the reference's. -/
import Derived.Test.YtppbdamlhcmlcaaRL
import Derived.Test.YtppbdamlhcmlcaaPK
namespace Go.Proofs.Ytppbdamlhcmlcaa
open Go.RowKit Go.Shelf Go.Lib Go.Sort
/-- Both, in memory; all is new since w. -/
structure Lp (w : World) (bt rb : Nat) (P : Pl) (S : St) (R : Rt) (W : World) : Prop where
  f : Fr w S W
  bt : S.bt = bt
  rb : R.b = rb
  r : Rs W R
  a : Ag P R
  p : pl S = P
  d : ∀ k, allR R k → w.heap.size ≤ k ∧ ¬ hasB S k
theorem Rs.ltA {W : World} {R : Rt} (h : Rs W R) {k : Nat} (hk : allR R k) : k < W.heap.size := by
  rcases hk with q | ⟨x, hx, q⟩ | q
  · exact h.lt q
  · exact ((h.ps x hx).2 k q).1
  · exact (h.dd.2 k q).1
theorem Lp.below {w W W' : World} {bt rb : Nat} {P : Pl} {S : St} {R : Rt} (h : Lp w bt rb P S R W) (b : Below W.heap.size W W') : Lp w bt rb P S R W' := ⟨h.f.below b, h.bt, h.rb, h.r.below b, h.a, h.p, h.d⟩
/-- The code's step is done, the reference's is still to come. -/
structure Lh (w : World) (bt rb : Nat) (P P' : Pl) (S : St) (R : Rt) (W : World) : Prop where
  f : Fr w S W
  bt : S.bt = bt
  rb : R.b = rb
  r : Rs W R
  a : Ag P R
  p : pl S = P'
  d : ∀ k, allR R k → w.heap.size ≤ k ∧ ¬ hasB S k
theorem Lp.code {w W W' : World} {bt rb : Nat} {P : Pl} {S S' : St} {R : Rt} {n : Nat} (h : Lp w bt rb P S R W) (g : Goes S W S' W' n) {P' : Pl} (hp : pl S' = P') : Lh w bt rb P P' S' R W' :=
  ⟨h.f.step g, g.bt.trans h.bt, h.rb, h.r.mv g.mv (fun k hk => (h.d k (.inl hk)).2) (fun x hx k hk => (h.d k (.inr (.inl ⟨x, hx, hk⟩))).2) (fun k hk => (h.d k (.inr (.inr hk))).2), h.a, hp, fun k hk => ⟨(h.d k hk).1, (g.beside (h.r.ltA hk) (h.d k hk).2).2⟩⟩
theorem Lh.below {w W W' : World} {bt rb : Nat} {P P' : Pl} {S : St} {R : Rt} (h : Lh w bt rb P P' S R W) (b : Below W.heap.size W W') : Lh w bt rb P P' S R W' := ⟨h.f.below b, h.bt, h.rb, h.r.below b, h.a, h.p, h.d⟩
theorem Lh.ref {w W W' : World} {bt rb : Nat} {P P' : Pl} {S : St} {R : Rt} (h : Lh w bt rb P P' S R W) (g : Rst P' R W W') : ∃ R', Lp w bt rb P' S R' W' ∧ R'.l.length ≤ R.l.length + 1 := by
  obtain ⟨R', g, a, hl⟩ := g
  refine ⟨R', ⟨⟨h.f.g.mv g.mv (fun k hk e => (h.d k (.inl e)).2 hk), h.f.b.trans (g.mv.toBelow h.f.b.size (fun k hk e => by have := (h.d k (.inl e)).1; omega)), h.f.n⟩, h.bt, g.b.trans h.rb, g.r, a, h.p, fun k hk => ?_⟩, hl⟩
  rcases g.al k hk with q | q
  · exact h.d k q
  · exact ⟨Nat.le_trans h.f.b.size q, fun e => by have := h.f.g.ltB e; omega⟩
/-- The reference's step first. -/
theorem Lp.refF {w W W' : World} {bt rb : Nat} {P P' : Pl} {S : St} {R : Rt} (h : Lp w bt rb P S R W) (g : Rst P' R W W') : ∃ R', (R'.l.length ≤ R.l.length + 1) ∧ Ps W' S ∧ (∀ (S' : St) (W2 : World) (n : Nat), Goes S W' S' W2 n → pl S' = P' → Lp w bt rb P' S' R' W2) := by
  obtain ⟨R', g, a, hl⟩ := g
  have hps : Ps W' S := h.f.g.mv g.mv (fun k hk e => (h.d k (.inl e)).2 hk)
  have hF : Fr w S W' := ⟨hps, h.f.b.trans (g.mv.toBelow h.f.b.size (fun k hk e => by have := (h.d k (.inl e)).1; omega)), h.f.n⟩
  have hd : ∀ k, allR R' k → w.heap.size ≤ k ∧ ¬ hasB S k := fun k hk => by
    rcases g.al k hk with q | q
    · exact h.d k q
    · exact ⟨Nat.le_trans h.f.b.size q, fun e => by have := h.f.g.ltB e; omega⟩
  exact ⟨R', hl, hps, fun S' W2 n g2 hp => ⟨hF.step g2, g2.bt.trans h.bt, g.b.trans h.rb, g.r.mv g2.mv (fun k hk => (hd k (.inl hk)).2) (fun x hx k hk => (hd k (.inr (.inl ⟨x, hx, hk⟩))).2) (fun k hk => (hd k (.inr (.inr hk))).2), a, hp, fun k hk => ⟨(hd k hk).1, (g2.beside (g.r.ltA hk) (hd k hk).2).2⟩⟩⟩
end Go.Proofs.Ytppbdamlhcmlcaa
