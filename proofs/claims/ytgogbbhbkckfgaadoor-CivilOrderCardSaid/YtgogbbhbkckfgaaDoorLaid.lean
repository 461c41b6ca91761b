/- What the rows' lists of package-level variables give: the lengths of the months, the powers of ten; a world that holds them, for the witnesses. -/
import Derived.Test.YtgogbbhbkckfgaaDoorC2
import Derived.Test.YtgogbbhbkckfgaaDoorRows
import Derived.Lib.LaidTab
import Derived.OpenShut
import Derived.Stop.LaidErr
import Derived.Deep.DeepLaidRun
import Derived.Deep.DeepHandedRow
import Derived.ProofKit
import Derived.Lib.ItoaNum
namespace Go.Proofs.YtgogbbhbkckfgaaDoor
open Go.RowKit Go.ChangeShapes
def laidC : List (String × DataW Unit) := [("reveille/civil.lengths", Rows.laid_reveille_civil_lengths)]
def laidP : List (String × DataW Unit) := [("math/bits.deBruijn32tab", Rows.laid_math_bits_deBruijn32tab), ("math/bits.deBruijn64tab", Rows.laid_math_bits_deBruijn64tab), ("internal/strconv.uint64pow10", Rows.laid_internal_strconv_uint64pow10), ("reveille/civil.lengths", Rows.laid_reveille_civil_lengths)]
/-- A variable that is listed: its cells, and how they read. -/
theorem laid_at {P : Program} {W : World} : ∀ {l : List (String × DataW Unit)} {ps : List MemPlace}, DataW.LaidVars P W l ps → ∀ n d, (n, d) ∈ l → ∃ g t cs fuel p, P.globalNamed n = some g ∧ (P.globals[g]?).map (·.type) = some t ∧ W.var? P n = some cs ∧ DataW.trod (fun _ => ()) P W 0 (fun _ => true) false fuel t cs.toList = some (d, p)
  | [], _, _, n, d, hm => by simp at hm
  | (m, c) :: r, ps, ⟨g, t, cs, fuel, p, q, h1, h2, h3, h4, h5, _⟩, n, d, hm => by
    rcases List.mem_cons.1 hm with he | hm
    · obtain ⟨rfl, rfl⟩ := Prod.mk.inj he
      exact ⟨g, t, cs, fuel, p, h1, h2, h3, h4⟩
    · exact laid_at h5 n d hm
theorem gLen : Tryd.prog.globalNamed "reveille/civil.lengths" = some 0 := by kernel_rfl
theorem tyLen : (Tryd.prog.globals[0]?).map (·.type) = some 67 := by kernel_rfl
theorem len_of {W : World} {l : List (String × DataW Unit)} (hm : ("reveille/civil.lengths", Rows.laid_reveille_civil_lengths) ∈ l) (h : laidMet Tryd.prog l W) : LenIn W := by
  obtain ⟨ps, hL, _, _⟩ := h
  obtain ⟨g, t, cs, fuel, p, h1, h2, h3, h4⟩ := laid_at hL "reveille/civil.lengths" Rows.laid_reveille_civil_lengths hm
  obtain rfl := Option.some.inj (gLen.symm.trans h1)
  obtain rfl := Option.some.inj (tyLen.symm.trans h2)
  have hc := Lib.cells_of_tab (zs := lenCells) Tryd.underlying67 Tryd.underlying3 (by kernel_rfl) (by kernel_rfl) h4
  intro j v hv
  rw [World.var?_cell gLen h3 j, ← Array.getElem?_toList, hc, List.getElem?_map, hv]
  rfl
theorem len_C {W : World} (h : laidMetH Tryd.prog laidC W) : LenIn W := len_of (l := laidC) (by simp [laidC]) h
theorem len_P {W : World} (h : laidMetH Tryd.prog laidP W) : LenIn W := len_of (l := laidP) (by simp [laidP]) h
def putCells (w : World) (b : Nat) (cs : Array Value) : World :=
  { w with heap := w.heap.modify b fun
      | .cells _ t frozen => .cells cs t frozen
      | o => o }
def laidWorld (P : Program) (os : Os) : World := putCells (World.holding P os ⟨#[], #[], []⟩) 0 #[.int .i64 31, .int .i64 28, .int .i64 31, .int .i64 30, .int .i64 31, .int .i64 30, .int .i64 31, .int .i64 31, .int .i64 30, .int .i64 31, .int .i64 30, .int .i64 31]
theorem laid_met (os : Os) (args : Array Value) : laidMet Tryd.prog laidC ((laidWorld Tryd.prog os).forCall (fun _ _ => 0) ⟨#[], args, []⟩).memory :=
  laidMet_of_run3 8 (by kernel_rfl) (by kernel_rfl) (by kernel_rfl)
end Go.Proofs.YtgogbbhbkckfgaaDoor
