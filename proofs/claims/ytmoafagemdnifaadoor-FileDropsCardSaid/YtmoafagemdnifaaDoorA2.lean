/- Contracts of package line's escaped, cutQuoted, cutWord, skipBlanks. -/
import Derived.Test.YtmoafagemdnifaaDoorA1
namespace Go.Proofs.YtmoafagemdnifaaDoor
open Go.RowKit Lin
def esV (o : Option UInt8) : Value := match o with
  | some c => .tuple #[.int .u8 c.toNat, .bool true]
  | none => .tuple #[.int .u8 0, .bool false]
/-- What stands behind a backslash. -/
def esH (l : L) : Option UInt8 := match l with
  | [] => none
  | c :: _ => es1 c
def cqV (o : Option (L × L)) : Value := match o with
  | some p => .tuple #[.string ⟨p.1.toArray⟩, .string ⟨p.2.toArray⟩, .bool true]
  | none => .tuple #[.string ⟨#[]⟩, .string ⟨#[]⟩, .bool false]
def strLen : Value → Nat
  | .string r => r.size
  | _ => 0
theorem cutQ_esc (q : UInt8) (r : L) (hq : q ≠ 92) : cutQ q (92 :: r) = (esH r).bind fun m => (cutQ q (r.drop 1)).map fun p => (m :: p.1, p.2) := by
  cases r with
  | nil => exact cutQ_bs0 q hq
  | cons d t => exact cutQ_bs q d t hq
theorem mapp (X : L) (c : UInt8) (o : Option (L × L)) : (o.map fun p => (c :: p.1, p.2)).map (fun p => (X ++ p.1, p.2)) = o.map fun p => ((X ++ [c]) ++ p.1, p.2) := by
  cases o <;> simp
end Go.Proofs.YtmoafagemdnifaaDoor
