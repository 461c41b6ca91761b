/- Parts of calendar expressions in memory; what is in them. -/
import Derived.Test.YteaaknbininehabDoorC2
import Derived.Test.YteaaknbininehabDoorCM
import Derived.Test.YteaaknbininehabDoorIt
namespace Go.Proofs.YteaaknbininehabDoor
open Go.RowKit
abbrev Part := Cal.Part
def okP (q : Part) : Prop := 0 ≤ q.2.1 ∧ q.2.1 ≤ 2200 ∧ 0 ≤ q.2.2.1 ∧ q.2.2.1 ≤ 2200 ∧ 0 ≤ q.2.2.2 ∧ q.2.2.2 ≤ 2200
def okL (ps : List Part) : Prop := ∀ q ∈ ps, okP q
def aggP (q : Part) : Value := .agg #[.bool q.1, .int .i64 q.2.1, .int .i64 q.2.2.1, .int .i64 q.2.2.2]
/-- The slice v holds the parts ps, in blocks that are not of E. -/
def Pin (E : Nat → Prop) (W : World) (v : Value) (ps : List Part) : Prop :=
  ∃ p cap, v = .slice p ps.length cap ∧ ps.length ≤ 1000 ∧ ∀ i q, ps[i]? = some q → ∃ b o, p = some ⟨b, o, none⟩ ∧ ¬ E b ∧
    W.cell? ⟨b, o + i * 4, none⟩ = some (.bool q.1) ∧ W.cell? ⟨b, o + i * 4 + 1, none⟩ = some (.int .i64 q.2.1) ∧ W.cell? ⟨b, o + i * 4 + 2, none⟩ = some (.int .i64 q.2.2.1) ∧ W.cell? ⟨b, o + i * 4 + 3, none⟩ = some (.int .i64 q.2.2.2)
theorem cell_lt {W : World} {a : Addr} {v : Value} (h : W.cell? a = some v) : a.block < W.heap.size := by
  rcases Nat.lt_or_ge a.block W.heap.size with hl | hl
  · exact hl
  · have : W.cell? a = none := by
      unfold World.cell?
      rw [Array.getElem?_eq_none hl]
    rw [this] at h; cases h
theorem Mv.cell {E : Nat → Prop} {W V : World} {a : Addr} {v : Value} (m : Mv E W V) (hE : ¬ E a.block) (h : W.cell? a = some v) : V.cell? a = some v := by
  rw [← h]
  exact World.cell?_of_block (m.block a.block (cell_lt h) hE)
theorem Pin.mv {E E' : Nat → Prop} {W V : World} {v : Value} {ps : List Part} (h : Pin E W v ps) (m : Mv E W V) (g : Gr E W E') : Pin E' V v ps := by
  obtain ⟨p, cap, rfl, hl, hc⟩ := h
  refine ⟨p, cap, rfl, hl, fun i q hq => ?_⟩
  obtain ⟨b, o, rfl, hE, c0, c1, c2, c3⟩ := hc i q hq
  refine ⟨b, o, rfl, fun h => ?_, m.cell hE c0, m.cell hE c1, m.cell hE c2, m.cell hE c3⟩
  rcases g b h with h | h
  · exact hE h
  · have := cell_lt c0; simp only at this; omega
theorem Pin.below {E : Nat → Prop} {W V : World} {v : Value} {ps : List Part} (h : Pin E W v ps) (m : Below W.heap.size W V) : Pin E V v ps := h.mv (.below m) (Gr.refl _ _)
theorem Pin.none {E : Nat → Prop} {W : World} {v : Value} {ps : List Part} (h : Pin E W v ps) : Pin (fun _ => False) W v ps := by
  obtain ⟨p, cap, rfl, hl, hc⟩ := h
  refine ⟨p, cap, rfl, hl, fun i q hq => ?_⟩
  obtain ⟨b, o, rfl, hE, c⟩ := hc i q hq
  exact ⟨b, o, rfl, fun h => h, c⟩
theorem cell_at {W : World} {cs : Array Value} {t : TypeId} {n j : Nat} {v : Value} (hn : W.heap.size = n) (h : cs[j]? = some v) : (W.alloc (.cells cs t)).cell? ⟨n, j, none⟩ = some v := by
  subst hn
  have := World.alloc_heap_new W (.cells cs t)
  unfold World.cell?
  rw [this]
  exact h
theorem cell_old {W : World} {o : Obj} {a : Addr} (h : a.block < W.heap.size) : (W.alloc o).cell? a = W.cell? a := World.cell?_alloc_lt _ _ _ h
theorem inP_any {q : Part} {n : Int} (h : q.1 = true) : Cal.inP q n = true := by simp [Cal.inP, h]
end Go.Proofs.YteaaknbininehabDoor
