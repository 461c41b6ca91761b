/- The package-level tables in a world; FormatInt at base 10, what lay below it unturned. -/
import Derived.Test.YtlnfapkpehhafaaDoorW5
import Derived.Lib.ItoaLen
import Derived.WalkSmall
namespace Go.Proofs.YtlnfapkpehhafaaDoor
open Go.RowKit Go.Sort
def writCells : List Value := [.string ⟨#[119]⟩, .int .i64 604800, .string ⟨#[100]⟩, .int .i64 86400, .string ⟨#[104]⟩, .int .i64 3600, .string ⟨#[109, 105, 110]⟩, .int .i64 60, .string ⟨#[115]⟩, .int .i64 1]
def WritIn (w : World) : Prop := ∀ (j : Nat) v, writCells[j]? = some v → w.cell? ⟨0, j, none⟩ = some v
structure TabsIn (w : World) : Prop where
  rd : ReadIn w
  wr : WritIn w
  pw : Lib.TabIs Tryd.prog w "internal/strconv.uint64pow10" .u64 Lib.pow10Tab
  sz : 8 ≤ w.heap.size
theorem gPow : Tryd.prog.globalNamed "internal/strconv.uint64pow10" = some 2 := by kernel_rfl
theorem TabsIn.below {w w' : World} (h : TabsIn w) (hb : Below w.heap.size w w') : TabsIn w' :=
  ⟨fun j v hv => (hb.cell (p := ⟨1, j, none⟩) (Nat.lt_of_lt_of_le (show 1 < 8 by decide) h.sz)).trans (h.rd j v hv),
   fun j v hv => (hb.cell (p := ⟨0, j, none⟩) (Nat.lt_of_lt_of_le (show 0 < 8 by decide) h.sz)).trans (h.wr j v hv),
   var?_below hb gPow (Nat.lt_of_lt_of_le (by decide) h.sz) h.pw, Nat.le_trans h.sz hb.size⟩
theorem below_grow (w : World) (os : Array Obj) : Below w.heap.size w (grow w os) :=
  ⟨rfl, rfl, rfl, by simp [grow], fun k hk => by simp [grow, Array.getElem?_append, hk]⟩
theorem fmt_any (n : Int) (h0 : -9223372036854775808 ≤ n) (h1 : n ≤ 9223372036854775807) (w : World) (hT : TabsIn w) :
    Calls Tryd.prog 21 #[.int .i64 n, .int .i64 10] w fun e w' => e = .returned (.string ⟨(Lib.itoa n).toArray⟩) ∧ Below w.heap.size w w' :=
  (Tryd.strconv_FormatInt_10 n h0 h1 w hT.pw).mono fun e w' ⟨he, k, os, hw⟩ => ⟨he, by
    rw [hw]
    exact (below_drewN w k).trans ((below_grow (w.drewN k) os).mono (below_drewN w k).size)⟩
end Go.Proofs.YtlnfapkpehhafaaDoor
