/- Small laws of bytes and words. -/
import Derived.Test.YtmoafagemdnifaaDoorR1
import Derived.Test.YtmoafagemdnifaaDoorLN6
namespace Go.Proofs.YtmoafagemdnifaaDoor
open Go.RowKit Lin
theorem mapP (X : List L) (y : L) (o : Option (List L)) : (o.map (y :: ·)).map (X ++ ·) = o.map ((X ++ [y]) ++ ·) := by cases o <;> simp
theorem mapQ (Y : L) (c : UInt8) (o : Option (L × L)) : (o.map fun p => (c :: p.1, p.2)).map (fun p => (Y ++ p.1, p.2)) = o.map fun p => ((Y ++ [c]) ++ p.1, p.2) := by cases o <;> simp
theorem bne8 (c d : UInt8) (h : c ≠ d) : ((c.toNat : Int) != (d.toNat : Int)) = true := by rw [bne, beq8 c d h]; rfl
theorem beq_size {i n : Nat} (h : i < n) : ((i : Int) == (n : Int)) = false := by simp; omega
theorem strs_snoc (X : List L) (A : ByteArray) : strs (X ++ [A.data.toList]) = strs X ++ [.string A] := by
  unfold strs
  rw [List.map_append]
  show _ ++ [Value.string ⟨A.data.toList.toArray⟩] = _
  rw [Lib.mk_data]
end Go.Proofs.YtmoafagemdnifaaDoor
