/- Contracts of package line's cutWord, Split, Quote. -/
import Derived.Test.YtmoafagemdnifaaDoorA2
import Derived.Maps.AppendAt
namespace Go.Proofs.YtmoafagemdnifaaDoor
open Go.RowKit Lin
theorem cqV_of {o : Option (L × L)} {A B : ByteArray} (h : o = some (A.data.toList, B.data.toList)) : cqV o = .tuple #[.string A, .string B, .bool true] := by
  rw [h]
  show Value.tuple #[.string ⟨A.data.toList.toArray⟩, .string ⟨B.data.toList.toArray⟩, .bool true] = _
  rw [Lib.mk_data, Lib.mk_data]
theorem beq8 (c d : UInt8) (h : c ≠ d) : ((c.toNat : Int) == (d.toNat : Int)) = false := by
  have : ¬ (c.toNat : Int) = (d.toNat : Int) := fun e => h (UInt8.toNat_inj.1 (by omega))
  simpa using this
def strs (l : List L) : List Value := l.map fun x => .string ⟨x.toArray⟩
/-- What Split tells. -/
def SplitP (o : Option (List L)) (w : World) (e : Ending) (w' : World) : Prop := match o with
  | none => e = .returned (.tuple #[.slice none 0 0, .int .i64 50]) ∧ Below w.heap.size w w'
  | some l => ∃ v, e = .returned (.tuple #[v, .int .i64 0]) ∧ w'.ownsRow w.heap.size 9 1 v l.length (strs l) ∧ Below w.heap.size w w'
theorem infoS : (Tryd.prog.info? 9).map (fun i => (i.zero, i.size, i.bytes)) = some (some (.string ⟨#[]⟩), 1, 16) := by kernel_rfl
theorem quo_snoc (l : L) (c : UInt8) : (l ++ [c]).flatMap q1 = l.flatMap q1 ++ q1 c := by simp
theorem q1_len (c : UInt8) : (q1 c).length ≤ 2 := by unfold q1; split; simp; split <;> simp
theorem quo_len : ∀ l : L, (l.flatMap q1).length ≤ 2 * l.length
  | [] => by simp
  | c :: r => by have := quo_len r; have := q1_len c; rw [List.flatMap_cons, List.length_append, List.length_cons]; omega
theorem strCells_two : Lib.strCells ⟨#[92, 110]⟩ = [.int .u8 92, .int .u8 110] := rfl
end Go.Proofs.YtmoafagemdnifaaDoor
