/- Slices of integers that came in; the law SpanParts answers true at every three of them. -/
import Derived.Test.YtlnfapkpehhafaaDoorParts
import Derived.OpenShut
namespace Go.Proofs.YtlnfapkpehhafaaDoor
open Go.RowKit
def IsRow (k : IntKind) (w : World) (a : Option Addr) (len cap : Nat) (zs : List Int) : Prop :=
  (a = none ∧ len = 0) ∨
  ∃ x, a = some x ∧ len ≤ cap ∧ zs.length = cap ∧ (∀ i, i < zs.length → w.cell? (x.add i) = some (.int k (zs.getD i 0))) ∧ ∀ n ∈ zs, (Lit.int k n).wf = true
theorem row_at {k : IntKind} {w : World} {a : Option Addr} {len cap : Nat} {zs : List Int} (m : Int) (h : IsRow k w a len cap zs) (hl : 1 ≤ len) (hk : ∀ n : Int, (Lit.int k n).wf = true → 0 ≤ n ∧ n ≤ m) (hm : 0 ≤ m) :
    ∃ (b o : Nat) (f : Nat → Nat), a = some ⟨b, o, none⟩ ∧ (∀ j, j < len → w.cell? ⟨b, o + j, none⟩ = some (.int k (f j))) ∧ ∀ j, (f j : Int) ≤ m := by
  rcases h with ⟨_, h0⟩ | ⟨x, rfl, hlc, hz, hcell, hwz⟩
  · omega
  · obtain ⟨b, o, rfl, hc⟩ := ints_at hcell (by omega)
    have hb : ∀ j, 0 ≤ zs.getD j 0 ∧ zs.getD j 0 ≤ m := by
      intro j
      by_cases hj : j < zs.length
      · have : zs.getD j 0 = zs[j] := by simp [List.getD, hj]
        rw [this]; exact hk _ (hwz _ (List.getElem_mem hj))
      · have : zs.getD j 0 = 0 := by simp [List.getD, List.getElem?_eq_none (show zs.length ≤ j by omega)]
        rw [this]; exact ⟨by omega, hm⟩
    refine ⟨b, o, fun j => (zs.getD j 0).toNat, rfl, fun j hj => ?_, fun j => ?_⟩
    · rw [hc j (by omega), Int.toNat_of_nonneg (hb j).1]
    · rw [Int.toNat_of_nonneg (hb j).1]; exact (hb j).2
theorem parts_walk (a0 a1 a2 : Option Addr) (n0 n1 n2 c0 c1 c2 : Nat) (z0 z1 z2 : List Int) (w : World) (hT : TabsIn w) (w0 : IsRow .u16 w a0 n0 c0 z0) (w1 : IsRow .u8 w a1 n1 c1 z1) (w2 : IsRow .u8 w a2 n2 c2 z2) :
    Calls Tryd.prog 7 #[.slice a0 n0 c0, .slice a1 n1 c1, .slice a2 n2 c2] w fun e w' => e = .returned (.bool true) ∧ Below w.heap.size w w' := by
  by_cases h : n0 < 1 ∨ 12 < n0 ∨ n1 < n0 ∨ n2 < n0
  · exact parts_early a0 a1 a2 n0 n1 n2 c0 c1 c2 w hT h
  · obtain ⟨b0, o0, x, rfl, hx, bx⟩ := row_at 65535 w0 (by omega) (fun n hn => bounds_u16 hn) (by omega)
    obtain ⟨b1, o1, y, rfl, hy, b_y⟩ := row_at 255 w1 (by omega) (fun n hn => bounds_u8 hn) (by omega)
    obtain ⟨b2, o2, g, rfl, hg, bg⟩ := row_at 255 w2 (by omega) (fun n hn => bounds_u8 hn) (by omega)
    exact parts_main b0 b1 b2 o0 o1 o2 n0 n1 n2 c0 c1 c2 x y g w hT (by omega) (by omega) (by omega) (by omega) hx hy hg (fun j => by have := bx j; omega) (fun j => by have := b_y j; omega) (fun j => by have := bg j; omega)
end Go.Proofs.YtlnfapkpehhafaaDoor
