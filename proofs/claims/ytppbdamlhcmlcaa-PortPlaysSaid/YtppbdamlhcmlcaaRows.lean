/-
  No cell of these rows narrows 'for every input' (looked for: loops, veiled, ifaces, maps, wideKeys, modest, calm, conditions, laid).
  DERIVED. THE GIVEN ROWS OF THIS SEAT. 4 by the template 'for every input the law returns true; each argument reads behind the call as it read before'; 0 by the template 'total and deterministic' (their statements: YtppbdamlhcmlcaaTotals.lean).
  GIVEN WITH THE SEED: the statements are not yours to turn. If you find one false, say at which input.
  Laid BY PROGRAM, IN A SANDBOX (cutbox-rows.mjs): the forced cells as the released guide's own fill.sh prints them over the translation 4d3657266cbd73c7… (all of the seat's roots in one cut). By AI agents, Wed Nov 11 2026. No macro, syntax, notation, axiom, sorry.
-/
import Derived.Test.YtppbdamlhcmlcaaChecked
import GoSem.Claim
import GoSem.ClaimJoined
import GoSem.ClaimMapViews
import Derived.JoinedTies
import Derived.KernelRfl
namespace Go.Proofs.Ytppbdamlhcmlcaa
/- THE CELL 'sum', in the pinned program and in every row, IS THE sha256 OF THE DUMP (.gsa) THAT YtppbdamlhcmlcaaProg.lean LOADS. Nothing in Lean hashes anything: it is a label: what it is worth is what the hold of that sum in a sandbox is worth. -/
noncomputable def Try.pinned : Pinned := { name := "ytppbdamlhcmlcaa", sum := "4d3657266cbd73c71252fb561103c254364e9d3b05a3cc70a6995ac2097fa707", checked := Try.checked }
namespace Rows
def none {H : Type} : Left H := { results := [], args := [] }

/-- 'reveillelaw10.PortPlays': WHATEVER THE INPUT: true; the input reads as it did. -/
def portPlaysSpec : ChangeSpec := { name := "portPlays", fn := fun _ => fun
  | [d] => { results := [.lit (.bool true)], args := [d] }
  | _ => none }
def portPlaysRow : OpenClaim := { program := "ytppbdamlhcmlcaa", sum := "4d3657266cbd73c71252fb561103c254364e9d3b05a3cc70a6995ac2097fa707", func := "reveille/reveillelaw10.PortPlays", spec := "portPlays", unfollowed := true, recurses := true, apart := false }
def PortPlaysSaid : Prop := portPlaysRow.holds Try.pinned (OpenSpec.ofChange portPlaysSpec)

/-- ITS FALSE NEIGHBOUR: 'it returns false'. Refute it at one input. -/
def portPlaysWrong : ChangeSpec := { name := "portPlays", fn := fun _ => fun
  | [d] => { results := [.lit (.bool false)], args := [d] }
  | _ => none }
def PortPlaysWrongFalsely : Prop := portPlaysRow.holds Try.pinned (OpenSpec.ofChange portPlaysWrong)

/-- 'reveillelaw10.PortOnce': WHATEVER THE INPUT: true; the input reads as it did. -/
def portOnceSpec : ChangeSpec := { name := "portOnce", fn := fun _ => fun
  | [d] => { results := [.lit (.bool true)], args := [d] }
  | _ => none }
def portOnceRow : OpenClaim := { program := "ytppbdamlhcmlcaa", sum := "4d3657266cbd73c71252fb561103c254364e9d3b05a3cc70a6995ac2097fa707", func := "reveille/reveillelaw10.PortOnce", spec := "portOnce", unfollowed := true, recurses := true, apart := false }
def PortOnceSaid : Prop := portOnceRow.holds Try.pinned (OpenSpec.ofChange portOnceSpec)

/-- ITS FALSE NEIGHBOUR: 'it returns false'. Refute it at one input. -/
def portOnceWrong : ChangeSpec := { name := "portOnce", fn := fun _ => fun
  | [d] => { results := [.lit (.bool false)], args := [d] }
  | _ => none }
def PortOnceWrongFalsely : Prop := portOnceRow.holds Try.pinned (OpenSpec.ofChange portOnceWrong)

/-- 'reveillelaw10.PortSockets': WHATEVER THE INPUT: true; the input reads as it did. -/
def portSocketsSpec : ChangeSpec := { name := "portSockets", fn := fun _ => fun
  | [d] => { results := [.lit (.bool true)], args := [d] }
  | _ => none }
def portSocketsRow : OpenClaim := { program := "ytppbdamlhcmlcaa", sum := "4d3657266cbd73c71252fb561103c254364e9d3b05a3cc70a6995ac2097fa707", func := "reveille/reveillelaw10.PortSockets", spec := "portSockets", unfollowed := true, recurses := true, apart := false }
def PortSocketsSaid : Prop := portSocketsRow.holds Try.pinned (OpenSpec.ofChange portSocketsSpec)

/-- ITS FALSE NEIGHBOUR: 'it returns false'. Refute it at one input. -/
def portSocketsWrong : ChangeSpec := { name := "portSockets", fn := fun _ => fun
  | [d] => { results := [.lit (.bool false)], args := [d] }
  | _ => none }
def PortSocketsWrongFalsely : Prop := portSocketsRow.holds Try.pinned (OpenSpec.ofChange portSocketsWrong)

/-- 'reveillelaw10.PortDatagrams': WHATEVER THE INPUT: true; the input reads as it did. -/
def portDatagramsSpec : ChangeSpec := { name := "portDatagrams", fn := fun _ => fun
  | [d] => { results := [.lit (.bool true)], args := [d] }
  | _ => none }
def portDatagramsRow : OpenClaim := { program := "ytppbdamlhcmlcaa", sum := "4d3657266cbd73c71252fb561103c254364e9d3b05a3cc70a6995ac2097fa707", func := "reveille/reveillelaw10.PortDatagrams", spec := "portDatagrams", apart := false }
def PortDatagramsSaid : Prop := portDatagramsRow.holds Try.pinned (OpenSpec.ofChange portDatagramsSpec)

/-- ITS FALSE NEIGHBOUR: 'it returns false'. Refute it at one input. -/
def portDatagramsWrong : ChangeSpec := { name := "portDatagrams", fn := fun _ => fun
  | [d] => { results := [.lit (.bool false)], args := [d] }
  | _ => none }
def PortDatagramsWrongFalsely : Prop := portDatagramsRow.holds Try.pinned (OpenSpec.ofChange portDatagramsWrong)

/- THE SECOND FORM. 'bulk': how many values and letters a reading holds, each counted each time it is reached (what is shared counts as often as it is met; a slice's spare places count too). A statement '..UptoSaid' is the law's where the arguments, and the package variables that the reading takes, are together of bulk at most 1048576: NARROWER than '..Said'. Prove '..Said' where nothing that the law and all that it calls make is longer than what came in: it says more and counts as full. Else prove '..UptoSaid'. A law counts once. -/
mutual
def uptoBulk {H : Type} : DataW H → Nat
  | .lit (.string bytes) => bytes.length + 1
  | .lit _ => 1
  | .nil => 1
  | .ptr d => uptoBulk d + 1
  | .slice elems spare => uptoBulkAll elems + uptoBulkAll spare + 1
  | .agg parts => uptoBulkAll parts + 1
  | .iface _ d => uptoBulk d + 1
  | .map entries => uptoBulkEntries entries + 1
  | .held _ => 1
def uptoBulkAll {H : Type} : List (DataW H) → Nat
  | [] => 0
  | d :: r => uptoBulk d + uptoBulkAll r
def uptoBulkEntries {H : Type} : List (Lit × DataW H) → Nat
  | [] => 0
  | x :: r => uptoBulkEntry x + uptoBulkEntries r
def uptoBulkEntry {H : Type} : Lit × DataW H → Nat
  | (.string bytes, d) => bytes.length + uptoBulk d + 1
  | (_, d) => uptoBulk d + 1
 end
def uptoSmall : (H : Type) → List (DataW H) → Bool := fun _ ds => decide (uptoBulkAll ds ≤ 1048576)
def OpenSpec.upto (s : _root_.Go.ChangeSpec) : _root_.Go.OpenSpec := { _root_.Go.OpenSpec.ofChange s with cond := some uptoSmall }

/-- 'reveillelaw10.PortPlays', WHERE WHAT IT READS IS OF BULK AT MOST 1048576: true; the input reads as it did. -/
def portPlaysUptoRow : OpenClaim := { program := "ytppbdamlhcmlcaa", sum := "4d3657266cbd73c71252fb561103c254364e9d3b05a3cc70a6995ac2097fa707", func := "reveille/reveillelaw10.PortPlays", spec := "portPlays", unfollowed := true, recurses := true, apart := false, narrowed := true }
def PortPlaysUptoSaid : Prop := portPlaysUptoRow.holds Try.pinned (OpenSpec.upto portPlaysSpec)

/-- 'reveillelaw10.PortOnce', WHERE WHAT IT READS IS OF BULK AT MOST 1048576: true; the input reads as it did. -/
def portOnceUptoRow : OpenClaim := { program := "ytppbdamlhcmlcaa", sum := "4d3657266cbd73c71252fb561103c254364e9d3b05a3cc70a6995ac2097fa707", func := "reveille/reveillelaw10.PortOnce", spec := "portOnce", unfollowed := true, recurses := true, apart := false, narrowed := true }
def PortOnceUptoSaid : Prop := portOnceUptoRow.holds Try.pinned (OpenSpec.upto portOnceSpec)

/-- 'reveillelaw10.PortSockets', WHERE WHAT IT READS IS OF BULK AT MOST 1048576: true; the input reads as it did. -/
def portSocketsUptoRow : OpenClaim := { program := "ytppbdamlhcmlcaa", sum := "4d3657266cbd73c71252fb561103c254364e9d3b05a3cc70a6995ac2097fa707", func := "reveille/reveillelaw10.PortSockets", spec := "portSockets", unfollowed := true, recurses := true, apart := false, narrowed := true }
def PortSocketsUptoSaid : Prop := portSocketsUptoRow.holds Try.pinned (OpenSpec.upto portSocketsSpec)

/-- 'reveillelaw10.PortDatagrams', WHERE WHAT IT READS IS OF BULK AT MOST 1048576: true; the input reads as it did. -/
def portDatagramsUptoRow : OpenClaim := { program := "ytppbdamlhcmlcaa", sum := "4d3657266cbd73c71252fb561103c254364e9d3b05a3cc70a6995ac2097fa707", func := "reveille/reveillelaw10.PortDatagrams", spec := "portDatagrams", apart := false, narrowed := true }
def PortDatagramsUptoSaid : Prop := portDatagramsUptoRow.holds Try.pinned (OpenSpec.upto portDatagramsSpec)

end Rows
end Go.Proofs.Ytppbdamlhcmlcaa
