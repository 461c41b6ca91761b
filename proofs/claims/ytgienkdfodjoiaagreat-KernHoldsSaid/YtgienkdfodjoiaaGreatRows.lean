/-
  No cell of these rows narrows 'for every input' (looked for: loops, veiled, ifaces, maps, wideKeys, modest, calm, conditions, laid).
  DERIVED. THE GIVEN ROWS OF THIS SEAT. 4 by the template 'for every input the law returns true; each argument reads behind the call as it read before'; 0 by the template 'total and deterministic' (their statements: YtgienkdfodjoiaaGreatTotals.lean).
  GIVEN WITH THE SEED: the statements are not yours to turn. If you find one false, say at which input.
  Laid BY PROGRAM, IN A SANDBOX (cutbox-rows.mjs): the forced cells as the released guide's own fill.sh prints them over the translation 68e6239286c21414… (all of the seat's roots in one cut). By AI agents, Wed Nov 11 2026. No macro, syntax, notation, axiom, sorry.
-/
import Derived.Test.YtgienkdfodjoiaaGreatChecked
import GoSem.Claim
import GoSem.ClaimJoined
import GoSem.ClaimMapViews
import Derived.JoinedTies
import Derived.KernelRfl
namespace Go.Proofs.YtgienkdfodjoiaaGreat
/- THE CELL 'sum', in the pinned program and in every row, IS THE sha256 OF THE DUMP (.gsa) THAT YtgienkdfodjoiaaGreatProg.lean LOADS. Nothing in Lean hashes anything: it is a label: what it is worth is what the hold of that sum in a sandbox is worth. -/
noncomputable def Tryz.pinned : Pinned := { name := "ytgienkdfodjoiaagreat", sum := "68e6239286c21414d26b6228056df5d8fcce3711f06c5b17cf3d90db1b8f5bf0", checked := Tryz.checked }
namespace Rows
def none {H : Type} : Left H := { results := [], args := [] }

/-- 'reveillelaw12.KernPlays': WHATEVER THE INPUT: true; the input reads as it did. -/
def kernPlaysSpec : ChangeSpec := { name := "kernPlays", fn := fun _ => fun
  | [d1, d2, d3] => { results := [.lit (.bool true)], args := [d1, d2, d3] }
  | _ => none }
def kernPlaysRow : OpenClaim := { program := "ytgienkdfodjoiaagreat", sum := "68e6239286c21414d26b6228056df5d8fcce3711f06c5b17cf3d90db1b8f5bf0", func := "reveille/reveillelaw12.KernPlays", spec := "kernPlays", unfollowed := true, recurses := true, apart := false }
def KernPlaysSaid : Prop := kernPlaysRow.holds Tryz.pinned (OpenSpec.ofChange kernPlaysSpec)

/-- ITS FALSE NEIGHBOUR: 'it returns false'. Refute it at one input. -/
def kernPlaysWrong : ChangeSpec := { name := "kernPlays", fn := fun _ => fun
  | [d1, d2, d3] => { results := [.lit (.bool false)], args := [d1, d2, d3] }
  | _ => none }
def KernPlaysWrongFalsely : Prop := kernPlaysRow.holds Tryz.pinned (OpenSpec.ofChange kernPlaysWrong)

/-- 'reveillelaw12.KernHolds': WHATEVER THE INPUT: true; the input reads as it did. -/
def kernHoldsSpec : ChangeSpec := { name := "kernHolds", fn := fun _ => fun
  | [d] => { results := [.lit (.bool true)], args := [d] }
  | _ => none }
def kernHoldsRow : OpenClaim := { program := "ytgienkdfodjoiaagreat", sum := "68e6239286c21414d26b6228056df5d8fcce3711f06c5b17cf3d90db1b8f5bf0", func := "reveille/reveillelaw12.KernHolds", spec := "kernHolds", unfollowed := true, recurses := true, apart := false }
def KernHoldsSaid : Prop := kernHoldsRow.holds Tryz.pinned (OpenSpec.ofChange kernHoldsSpec)

/-- ITS FALSE NEIGHBOUR: 'it returns false'. Refute it at one input. -/
def kernHoldsWrong : ChangeSpec := { name := "kernHolds", fn := fun _ => fun
  | [d] => { results := [.lit (.bool false)], args := [d] }
  | _ => none }
def KernHoldsWrongFalsely : Prop := kernHoldsRow.holds Tryz.pinned (OpenSpec.ofChange kernHoldsWrong)

/-- 'reveillelaw12.KernKills': WHATEVER THE INPUT: true; the input reads as it did. -/
def kernKillsSpec : ChangeSpec := { name := "kernKills", fn := fun _ => fun
  | [d1, d2] => { results := [.lit (.bool true)], args := [d1, d2] }
  | _ => none }
def kernKillsRow : OpenClaim := { program := "ytgienkdfodjoiaagreat", sum := "68e6239286c21414d26b6228056df5d8fcce3711f06c5b17cf3d90db1b8f5bf0", func := "reveille/reveillelaw12.KernKills", spec := "kernKills", unfollowed := true, recurses := true, apart := false }
def KernKillsSaid : Prop := kernKillsRow.holds Tryz.pinned (OpenSpec.ofChange kernKillsSpec)

/-- ITS FALSE NEIGHBOUR: 'it returns false'. Refute it at one input. -/
def kernKillsWrong : ChangeSpec := { name := "kernKills", fn := fun _ => fun
  | [d1, d2] => { results := [.lit (.bool false)], args := [d1, d2] }
  | _ => none }
def KernKillsWrongFalsely : Prop := kernKillsRow.holds Tryz.pinned (OpenSpec.ofChange kernKillsWrong)

/-- 'reveillelaw12.KernClocks': WHATEVER THE INPUT: true; the input reads as it did. -/
def kernClocksSpec : ChangeSpec := { name := "kernClocks", fn := fun _ => fun
  | [d1, d2, d3] => { results := [.lit (.bool true)], args := [d1, d2, d3] }
  | _ => none }
def kernClocksRow : OpenClaim := { program := "ytgienkdfodjoiaagreat", sum := "68e6239286c21414d26b6228056df5d8fcce3711f06c5b17cf3d90db1b8f5bf0", func := "reveille/reveillelaw12.KernClocks", spec := "kernClocks", unfollowed := true, recurses := true, apart := false }
def KernClocksSaid : Prop := kernClocksRow.holds Tryz.pinned (OpenSpec.ofChange kernClocksSpec)

/-- ITS FALSE NEIGHBOUR: 'it returns false'. Refute it at one input. -/
def kernClocksWrong : ChangeSpec := { name := "kernClocks", fn := fun _ => fun
  | [d1, d2, d3] => { results := [.lit (.bool false)], args := [d1, d2, d3] }
  | _ => none }
def KernClocksWrongFalsely : Prop := kernClocksRow.holds Tryz.pinned (OpenSpec.ofChange kernClocksWrong)

/- THE SECOND FORM. 'bulk': how many values and letters a reading holds, each counted each time it is reached (what is shared counts as often as it is met; a slice's spare places count too). A statement '..UptoSaid' is the law's where the arguments, and the package variables that the reading takes, are together of bulk at most 1048576: NARROWER than '..Said'. Prove '..Said' where nothing that the law and all that it calls make is longer than what came in: it says more and counts as full. Else prove '..UptoSaid'. A law counts once. -/
mutual
def uptoBulk {H : Type} : DataW H → Nat
  | .lit (.string bytes) => bytes.length + 1
  | .lit _ => 1
  | .nil => 1
  | .ptr d => uptoBulk d + 1
  | .slice elems spare => uptoBulkAll elems + uptoBulkAll spare + 1
  | .agg parts => uptoBulkAll parts + 1
  | .iface _ d => uptoBulk d + 1
  | .map entries => uptoBulkEntries entries + 1
  | .held _ => 1
def uptoBulkAll {H : Type} : List (DataW H) → Nat
  | [] => 0
  | d :: r => uptoBulk d + uptoBulkAll r
def uptoBulkEntries {H : Type} : List (Lit × DataW H) → Nat
  | [] => 0
  | x :: r => uptoBulkEntry x + uptoBulkEntries r
def uptoBulkEntry {H : Type} : Lit × DataW H → Nat
  | (.string bytes, d) => bytes.length + uptoBulk d + 1
  | (_, d) => uptoBulk d + 1
 end
def uptoSmall : (H : Type) → List (DataW H) → Bool := fun _ ds => decide (uptoBulkAll ds ≤ 1048576)
def OpenSpec.upto (s : _root_.Go.ChangeSpec) : _root_.Go.OpenSpec := { _root_.Go.OpenSpec.ofChange s with cond := some uptoSmall }

/-- 'reveillelaw12.KernPlays', WHERE WHAT IT READS IS OF BULK AT MOST 1048576: true; the input reads as it did. -/
def kernPlaysUptoRow : OpenClaim := { program := "ytgienkdfodjoiaagreat", sum := "68e6239286c21414d26b6228056df5d8fcce3711f06c5b17cf3d90db1b8f5bf0", func := "reveille/reveillelaw12.KernPlays", spec := "kernPlays", unfollowed := true, recurses := true, apart := false, narrowed := true }
def KernPlaysUptoSaid : Prop := kernPlaysUptoRow.holds Tryz.pinned (OpenSpec.upto kernPlaysSpec)

/-- 'reveillelaw12.KernHolds', WHERE WHAT IT READS IS OF BULK AT MOST 1048576: true; the input reads as it did. -/
def kernHoldsUptoRow : OpenClaim := { program := "ytgienkdfodjoiaagreat", sum := "68e6239286c21414d26b6228056df5d8fcce3711f06c5b17cf3d90db1b8f5bf0", func := "reveille/reveillelaw12.KernHolds", spec := "kernHolds", unfollowed := true, recurses := true, apart := false, narrowed := true }
def KernHoldsUptoSaid : Prop := kernHoldsUptoRow.holds Tryz.pinned (OpenSpec.upto kernHoldsSpec)

/-- 'reveillelaw12.KernKills', WHERE WHAT IT READS IS OF BULK AT MOST 1048576: true; the input reads as it did. -/
def kernKillsUptoRow : OpenClaim := { program := "ytgienkdfodjoiaagreat", sum := "68e6239286c21414d26b6228056df5d8fcce3711f06c5b17cf3d90db1b8f5bf0", func := "reveille/reveillelaw12.KernKills", spec := "kernKills", unfollowed := true, recurses := true, apart := false, narrowed := true }
def KernKillsUptoSaid : Prop := kernKillsUptoRow.holds Tryz.pinned (OpenSpec.upto kernKillsSpec)

/-- 'reveillelaw12.KernClocks', WHERE WHAT IT READS IS OF BULK AT MOST 1048576: true; the input reads as it did. -/
def kernClocksUptoRow : OpenClaim := { program := "ytgienkdfodjoiaagreat", sum := "68e6239286c21414d26b6228056df5d8fcce3711f06c5b17cf3d90db1b8f5bf0", func := "reveille/reveillelaw12.KernClocks", spec := "kernClocks", unfollowed := true, recurses := true, apart := false, narrowed := true }
def KernClocksUptoSaid : Prop := kernClocksUptoRow.holds Tryz.pinned (OpenSpec.upto kernClocksSpec)

end Rows
end Go.Proofs.YtgienkdfodjoiaaGreat
