/- QueuePlays, for the row that came in. -/
import Derived.Test.YteimalemecgomaaGreatKVB
namespace Go.Proofs.YteimalemecgomaaGreat
open Go.RowKit Go.Shelf Go.Lib
theorem plays_own (p0 : Option Addr) (c0 : Nat) (l : List Int) (st : Int) (w : World) (hl : ∀ i x, l[i]? = some x → (Lit.int .i8 x).wf = true ∧ ∃ b o, p0 = some ⟨b, o, none⟩ ∧ w.cell? ⟨b, o + i, none⟩ = some (.int .i8 x)) (hll : l.length ≤ 140737488355328) (_s1 : -9223372036854775808 ≤ st) (_s2 : st ≤ 9223372036854775807) :
    Calls Tryz.prog 3 #[.slice p0 l.length c0, .int .i64 st] w fun e V => e = .returned (.bool true) ∧ Below w.heap.size w V :=
  plays_walk p0 c0 l st w (fun i x h => (hl i x h).2) (fun z hz => by
    obtain ⟨i, hi⟩ := List.getElem?_of_mem hz
    exact bounds_i8 (hl i z hi).1) hll
end Go.Proofs.YteimalemecgomaaGreat
