/- The two rows that FileMerges gathers. -/
import Derived.Test.YtiinhfbfciccnaaDoorM8B
namespace Go.Proofs.YtiinhfbfciccnaaDoor
open Go.RowKit Go.Shelf
theorem infoI : (Tryd.prog.info? 3).map (fun i => (i.zero, i.size, i.bytes)) = some (some (.int .i64 0), 1, 8) := by kernel_rfl
/-- The two rows so far. -/
structure FM (B pa pb : Nat) (is : List Int) (ss : List ByteArray) (v1 v2 : Value) (W : World) : Prop where
  c1 : Cl pa v1 W
  c2 : Cl pb v2 W
  o1 : W.ownsRow B 3 1 v1 is.length (is.map (Value.int .i64))
  o2 : W.ownsRow B 9 1 v2 ss.length (ss.map Value.string)
  dis : ∀ k, v1.ownBlock = some k → v2.ownBlock = some k → False
def Td2 (B pa pb k : Nat) : Prop := k = pa ∨ k = pb ∨ B ≤ k
/-- What FileMerges's first closure does. -/
def M1P (B pa pb ps : Nat) (st : Int) : Prop := ∀ (i : Int) (s : ByteArray) (v1 v2 : Value) (is : List Int) (ss : List ByteArray) (W : World), B ≤ W.heap.size → pa < B → pb < B → ps < B → pa ≠ pb → ps ≠ pa → ps ≠ pb →
    FM B pa pb is ss v1 v2 W → W.cell? ⟨ps, 0, none⟩ = some (.int .i64 st) → is.length ≤ 250 → ss.length = is.length →
    Calls Tryd.prog 17 #[.int .i64 i, .string s, .pointer (some ⟨pa, 0, none⟩), .pointer (some ⟨pb, 0, none⟩), .pointer (some ⟨ps, 0, none⟩)] W fun e W' => e = .returned (.bool (decide ((is.length : Int) + 1 ≠ st))) ∧ (∃ v1' v2', FM B pa pb (is ++ [i]) (ss ++ [s]) v1' v2' W') ∧ Mv (Td2 B pa pb) W W'
end Go.Proofs.YtiinhfbfciccnaaDoor
