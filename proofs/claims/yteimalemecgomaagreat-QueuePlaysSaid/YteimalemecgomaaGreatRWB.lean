/- Rows that came in. -/
import Derived.Test.YteimalemecgomaaGreatBb
namespace Go.Proofs.YteimalemecgomaaGreat
open Go.RowKit Go.Shelf Go.Lib
/-- A row of numbers that came in. -/
def RowI (k : IntKind) (w : World) (p : Option Addr) (l : List Int) : Prop := ∀ i x, l[i]? = some x → ∃ b o, p = some ⟨b, o, none⟩ ∧ w.cell? ⟨b, o + i, none⟩ = some (.int k x)
def RowBl (w : World) (p : Option Addr) (l : List Bool) : Prop := ∀ i x, l[i]? = some x → ∃ b o, p = some ⟨b, o, none⟩ ∧ w.cell? ⟨b, o + i, none⟩ = some (.bool x)
theorem RowI.below {k : IntKind} {w W : World} {p : Option Addr} {l : List Int} (h : RowI k w p l) (b : Below w.heap.size w W) : RowI k W p l := fun i x hx => by
  obtain ⟨g, o, e, c⟩ := h i x hx
  exact ⟨g, o, e, bcell b (cell_lt c) c⟩
theorem RowBl.below {w W : World} {p : Option Addr} {l : List Bool} (h : RowBl w p l) (b : Below w.heap.size w W) : RowBl W p l := fun i x hx => by
  obtain ⟨g, o, e, c⟩ := h i x hx
  exact ⟨g, o, e, bcell b (cell_lt c) c⟩
/-- A row of texts that came in. -/
def RowSt (w : World) (p : Option Addr) (l : List ByteArray) : Prop := ∀ i x, l[i]? = some x → ∃ b o, p = some ⟨b, o, none⟩ ∧ w.cell? ⟨b, o + i, none⟩ = some (.string x)
theorem RowSt.below {w W : World} {p : Option Addr} {l : List ByteArray} (h : RowSt w p l) (b : Below w.heap.size w W) : RowSt W p l := fun i x hx => by
  obtain ⟨g, o, e, c⟩ := h i x hx
  exact ⟨g, o, e, bcell b (cell_lt c) c⟩
end Go.Proofs.YteimalemecgomaaGreat
