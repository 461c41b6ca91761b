/- A box for a result of struct type. -/
import Derived.Test.YteimalemecgomaaGreatQtPB
namespace Go.Proofs.YteimalemecgomaaGreat.Qt
open Go.RowKit Go.Shelf Go.Lib
/-- A box of zeros at b. -/
structure Bz (w : World) (b : Nat) : Prop where
  c : (w.cell? ⟨b, 0, none⟩ = some (.int .i64 0) ∧ w.cell? ⟨b, 1, none⟩ = some (.int .i64 0))
  f : (w.frozen? ⟨b, 0, none⟩ = false ∧ w.frozen? ⟨b, 1, none⟩ = false)
  lt : b < w.heap.size
theorem Bz.new (w : World) : Bz (w.alloc (.cells #[.int .i64 0, .int .i64 0] 27)) w.heap.size :=
  ⟨⟨cell_at rfl rfl, cell_at rfl rfl⟩, ⟨froz_new rfl, froz_new rfl⟩, by simp⟩
theorem Bz.mv {D : Nat → Prop} {w V : World} {b : Nat} (h : Bz w b) (m : Mv D w V) (hb : ¬ D b) : Bz V b :=
  ⟨⟨m.cell (a := ⟨b, 0, none⟩) hb h.c.1, m.cell (a := ⟨b, 1, none⟩) hb h.c.2⟩, ⟨(m.froz (a := ⟨b, 0, none⟩) hb h.lt).trans h.f.1, (m.froz (a := ⟨b, 1, none⟩) hb h.lt).trans h.f.2⟩, Nat.lt_of_lt_of_le h.lt m.size⟩
theorem Bz.put {w : World} {b : Nat} (h : Bz w b) (x : El) : ∃ V, ((w.setCell ⟨b, 0, none⟩ (vc0 x)).setCell ⟨b, 1, none⟩ (vc1 x)) = V ∧ (V.cell? ⟨b, 0, none⟩ = some (vc0 x) ∧ V.cell? ⟨b, 1, none⟩ = some (vc1 x)) ∧ Mv (fun k => k = b) w V := by
  refine ⟨_, rfl, ?_, ?_⟩
  · obtain ⟨hc, _, _⟩ := h
    exact ⟨((World.cell?_setCell_other _ _ _ _ (by simp)).trans (World.cell?_setCell_same _ _ _ (hc.1))), (World.cell?_setCell_same _ _ _ ((World.cell?_setCell_other _ _ _ _ (by simp)).trans (hc.2)))⟩
  · exact (Cv.cells w b 0 [vc0 x, vc1 x]).mv.mono fun k _ s => by obtain ⟨j, s, _⟩ := s; exact s
theorem Qg.box {nb : Nat} {key : El → Int} {w w0 V V7 : World} {q : Nat} {E B : Nat → Prop} {L : List El} {n bx : Nat} (b : Below w.heap.size w w0) (hE : ∀ k, E k → k < w.heap.size) (hB : ∀ k, B k → k < w.heap.size) (hx : w.heap.size = bx) (lt : bx < w0.heap.size) (h : Qg nb key w0 q E B L n V) (m : Mv (fun k => k = bx) V V7) : Qg nb key w q E B L n V7 := by
  obtain ⟨E', B', y1, y2, y3, y4⟩ := h
  refine ⟨E', B', y1.mv m (fun k hk e => ?_) (fun k hk e => ?_), ?_, Gr.mono b.size y3, Gr.mono b.size y4⟩
  · rcases y3 k hk with z | z
    · have := hE k z; omega
    · omega
  · rcases y4 k hk with z | z
    · have := hB k z; omega
    · omega
  · exact ((Mv.below b).trans' y2).trans (E' := fun k => k = bx) (fun k e => .inr (by omega)) m
end Go.Proofs.YteimalemecgomaaGreat.Qt
