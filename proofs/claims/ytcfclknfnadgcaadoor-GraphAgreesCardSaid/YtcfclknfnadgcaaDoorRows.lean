/-
  NARROWER THAN 'FOR EVERY INPUT', by the rows' own cells (each row's printed sentence says how): GraphAgrees: laid · GraphFull: laid · GraphDefaults: laid.
  DERIVED. THE GIVEN ROWS OF THIS SEAT. 3 by the template 'for every input the law returns true; each argument reads behind the call as it read before'; 0 by the template 'total and deterministic' (their statements: YtcfclknfnadgcaaDoorTotals.lean).
  GIVEN WITH THE SEED: the statements are not yours to turn. If you find one false, say at which input.
  Laid BY PROGRAM, IN A SANDBOX (cutbox-rows.mjs): the forced cells as the released guide's own fill.sh prints them over the translation 6c4dca51cf747682… (all of the seat's roots in one cut). By AI agents, Wed Nov 11 2026. No macro, syntax, notation, axiom, sorry.
-/
import Derived.Test.YtcfclknfnadgcaaDoorChecked
import GoSem.Claim
import GoSem.ClaimJoined
import GoSem.ClaimMapViews
import Derived.JoinedTies
import Derived.KernelRfl
namespace Go.Proofs.YtcfclknfnadgcaaDoor
/- THE CELL 'sum', in the pinned program and in every row, IS THE sha256 OF THE DUMP (.gsa) THAT YtcfclknfnadgcaaDoorProg.lean LOADS. Nothing in Lean hashes anything: it is a label: what it is worth is what the hold of that sum in a sandbox is worth. -/
noncomputable def Tryd.pinned : Pinned := { name := "ytcfclknfnadgcaadoor", sum := "6c4dca51cf747682f352e7026d41c1dbf833a6c07a1ab217485a0baf3a5142f3", checked := Tryd.checked }
namespace Rows
def none {H : Type} : Left H := { results := [], args := [] }

/- WHAT THE LISTED PACKAGE-LEVEL VARIABLES READ AS WHEN THE CALL BEGINS. Each datum BY PROGRAM (the guide's laid-datum.mjs) off the statement by which the dump's own 'gosem.cut.vars' lays the variable. In a bare row this is a premise. The card (YtcfclknfnadgcaaDoorCards.lean) ties it to the program's text. -/
def laid_reveille_name_endings {H : Type} : DataW H := .agg [.agg [.lit (.string [46, 115, 101, 114, 118, 105, 99, 101]), .lit (.int .i64 1)], .agg [.lit (.string [46, 115, 111, 99, 107, 101, 116]), .lit (.int .i64 2)], .agg [.lit (.string [46, 116, 105, 109, 101, 114]), .lit (.int .i64 3)], .agg [.lit (.string [46, 112, 97, 116, 104]), .lit (.int .i64 4)], .agg [.lit (.string [46, 109, 111, 117, 110, 116]), .lit (.int .i64 5)], .agg [.lit (.string [46, 116, 97, 114, 103, 101, 116]), .lit (.int .i64 6)]]

/-- 'reveillelaw15.GraphAgrees': WHATEVER THE INPUT: true; the input reads as it did. -/
def graphAgreesSpec : ChangeSpec := { name := "graphAgrees", fn := fun _ => fun
  | [d] => { results := [.lit (.bool true)], args := [d] }
  | _ => none }
def graphAgreesRow : OpenClaim := { program := "ytcfclknfnadgcaadoor", sum := "6c4dca51cf747682f352e7026d41c1dbf833a6c07a1ab217485a0baf3a5142f3", func := "reveille/reveillelaw15.GraphAgrees", spec := "graphAgrees", inPlace := ["internal/bytealg.IndexByteString", "internal/bytealg.IndexString"], unfollowed := true, recurses := true, named := ["reveille/name.endings", "internal/bytealg.MaxLen"], plainKeys := false, apart := false, laid := [("reveille/name.endings", laid_reveille_name_endings)] }
def GraphAgreesSaid : Prop := graphAgreesRow.holds Tryd.pinned (OpenSpec.ofChange graphAgreesSpec)

/-- ITS FALSE NEIGHBOUR: 'it returns false'. Refute it at one input. -/
def graphAgreesWrong : ChangeSpec := { name := "graphAgrees", fn := fun _ => fun
  | [d] => { results := [.lit (.bool false)], args := [d] }
  | _ => none }
def GraphAgreesWrongFalsely : Prop := graphAgreesRow.holds Tryd.pinned (OpenSpec.ofChange graphAgreesWrong)

/-- 'reveillelaw15.GraphFull': WHATEVER THE INPUT: true; the input reads as it did. -/
def graphFullSpec : ChangeSpec := { name := "graphFull", fn := fun _ => fun
  | [d] => { results := [.lit (.bool true)], args := [d] }
  | _ => none }
def graphFullRow : OpenClaim := { program := "ytcfclknfnadgcaadoor", sum := "6c4dca51cf747682f352e7026d41c1dbf833a6c07a1ab217485a0baf3a5142f3", func := "reveille/reveillelaw15.GraphFull", spec := "graphFull", inPlace := ["internal/bytealg.IndexByteString", "internal/bytealg.IndexString"], unfollowed := true, recurses := true, named := ["reveille/name.endings", "internal/bytealg.MaxLen"], plainKeys := false, apart := false, laid := [("reveille/name.endings", laid_reveille_name_endings)] }
def GraphFullSaid : Prop := graphFullRow.holds Tryd.pinned (OpenSpec.ofChange graphFullSpec)

/-- ITS FALSE NEIGHBOUR: 'it returns false'. Refute it at one input. -/
def graphFullWrong : ChangeSpec := { name := "graphFull", fn := fun _ => fun
  | [d] => { results := [.lit (.bool false)], args := [d] }
  | _ => none }
def GraphFullWrongFalsely : Prop := graphFullRow.holds Tryd.pinned (OpenSpec.ofChange graphFullWrong)

/-- 'reveillelaw15.GraphDefaults': WHATEVER THE INPUT: true; the input reads as it did. -/
def graphDefaultsSpec : ChangeSpec := { name := "graphDefaults", fn := fun _ => fun
  | [d1, d2] => { results := [.lit (.bool true)], args := [d1, d2] }
  | _ => none }
def graphDefaultsRow : OpenClaim := { program := "ytcfclknfnadgcaadoor", sum := "6c4dca51cf747682f352e7026d41c1dbf833a6c07a1ab217485a0baf3a5142f3", func := "reveille/reveillelaw15.GraphDefaults", spec := "graphDefaults", inPlace := ["internal/bytealg.IndexByteString", "internal/bytealg.IndexString"], unfollowed := true, recurses := true, named := ["reveille/name.endings", "internal/bytealg.MaxLen"], plainKeys := false, apart := false, laid := [("reveille/name.endings", laid_reveille_name_endings)] }
def GraphDefaultsSaid : Prop := graphDefaultsRow.holds Tryd.pinned (OpenSpec.ofChange graphDefaultsSpec)

/-- ITS FALSE NEIGHBOUR: 'it returns false'. Refute it at one input. -/
def graphDefaultsWrong : ChangeSpec := { name := "graphDefaults", fn := fun _ => fun
  | [d1, d2] => { results := [.lit (.bool false)], args := [d1, d2] }
  | _ => none }
def GraphDefaultsWrongFalsely : Prop := graphDefaultsRow.holds Tryd.pinned (OpenSpec.ofChange graphDefaultsWrong)

/- THE SECOND FORM. 'bulk': how many values and letters a reading holds, each counted each time it is reached (what is shared counts as often as it is met; a slice's spare places count too). A statement '..UptoSaid' is the law's where the arguments, and the package variables that the reading takes, are together of bulk at most 1048576: NARROWER than '..Said'. Prove '..Said' where nothing that the law and all that it calls make is longer than what came in: it says more and counts as full. Else prove '..UptoSaid'. A law counts once. -/
mutual
def uptoBulk {H : Type} : DataW H → Nat
  | .lit (.string bytes) => bytes.length + 1
  | .lit _ => 1
  | .nil => 1
  | .ptr d => uptoBulk d + 1
  | .slice elems spare => uptoBulkAll elems + uptoBulkAll spare + 1
  | .agg parts => uptoBulkAll parts + 1
  | .iface _ d => uptoBulk d + 1
  | .map entries => uptoBulkEntries entries + 1
  | .held _ => 1
def uptoBulkAll {H : Type} : List (DataW H) → Nat
  | [] => 0
  | d :: r => uptoBulk d + uptoBulkAll r
def uptoBulkEntries {H : Type} : List (Lit × DataW H) → Nat
  | [] => 0
  | x :: r => uptoBulkEntry x + uptoBulkEntries r
def uptoBulkEntry {H : Type} : Lit × DataW H → Nat
  | (.string bytes, d) => bytes.length + uptoBulk d + 1
  | (_, d) => uptoBulk d + 1
 end
def uptoSmall : (H : Type) → List (DataW H) → Bool := fun _ ds => decide (uptoBulkAll ds ≤ 1048576)
def OpenSpec.upto (s : _root_.Go.ChangeSpec) : _root_.Go.OpenSpec := { _root_.Go.OpenSpec.ofChange s with cond := some uptoSmall }

/-- 'reveillelaw15.GraphAgrees', WHERE WHAT IT READS IS OF BULK AT MOST 1048576: true; the input reads as it did. -/
def graphAgreesUptoRow : OpenClaim := { program := "ytcfclknfnadgcaadoor", sum := "6c4dca51cf747682f352e7026d41c1dbf833a6c07a1ab217485a0baf3a5142f3", func := "reveille/reveillelaw15.GraphAgrees", spec := "graphAgrees", inPlace := ["internal/bytealg.IndexByteString", "internal/bytealg.IndexString"], unfollowed := true, recurses := true, named := ["reveille/name.endings", "internal/bytealg.MaxLen"], plainKeys := false, apart := false, laid := [("reveille/name.endings", laid_reveille_name_endings)], narrowed := true }
def GraphAgreesUptoSaid : Prop := graphAgreesUptoRow.holds Tryd.pinned (OpenSpec.upto graphAgreesSpec)

/-- 'reveillelaw15.GraphFull', WHERE WHAT IT READS IS OF BULK AT MOST 1048576: true; the input reads as it did. -/
def graphFullUptoRow : OpenClaim := { program := "ytcfclknfnadgcaadoor", sum := "6c4dca51cf747682f352e7026d41c1dbf833a6c07a1ab217485a0baf3a5142f3", func := "reveille/reveillelaw15.GraphFull", spec := "graphFull", inPlace := ["internal/bytealg.IndexByteString", "internal/bytealg.IndexString"], unfollowed := true, recurses := true, named := ["reveille/name.endings", "internal/bytealg.MaxLen"], plainKeys := false, apart := false, laid := [("reveille/name.endings", laid_reveille_name_endings)], narrowed := true }
def GraphFullUptoSaid : Prop := graphFullUptoRow.holds Tryd.pinned (OpenSpec.upto graphFullSpec)

/-- 'reveillelaw15.GraphDefaults', WHERE WHAT IT READS IS OF BULK AT MOST 1048576: true; the input reads as it did. -/
def graphDefaultsUptoRow : OpenClaim := { program := "ytcfclknfnadgcaadoor", sum := "6c4dca51cf747682f352e7026d41c1dbf833a6c07a1ab217485a0baf3a5142f3", func := "reveille/reveillelaw15.GraphDefaults", spec := "graphDefaults", inPlace := ["internal/bytealg.IndexByteString", "internal/bytealg.IndexString"], unfollowed := true, recurses := true, named := ["reveille/name.endings", "internal/bytealg.MaxLen"], plainKeys := false, apart := false, laid := [("reveille/name.endings", laid_reveille_name_endings)], narrowed := true }
def GraphDefaultsUptoSaid : Prop := graphDefaultsUptoRow.holds Tryd.pinned (OpenSpec.upto graphDefaultsSpec)

end Rows
end Go.Proofs.YtcfclknfnadgcaaDoor
