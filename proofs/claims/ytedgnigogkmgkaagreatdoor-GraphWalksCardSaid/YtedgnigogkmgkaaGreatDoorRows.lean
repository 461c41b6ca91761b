/-
  NARROWER THAN 'FOR EVERY INPUT', by the rows' own cells (each row's printed sentence says how): GraphWalks: laid · OrderTells: laid · OrderSorts: laid · OrderRows: laid · OrderCircle: laid · JobPlays: laid.
  DERIVED. THE GIVEN ROWS OF THIS SEAT. 6 by the template 'for every input the law returns true; each argument reads behind the call as it read before'; 0 by the template 'total and deterministic' (their statements: YtedgnigogkmgkaaGreatDoorTotals.lean).
  GIVEN WITH THE SEED: the statements are not yours to turn. If you find one false, say at which input.
  Laid BY PROGRAM, IN A SANDBOX (cutbox-rows.mjs): the forced cells as the released guide's own fill.sh prints them over the translation ca47f5f4ada176c8… (all of the seat's roots in one cut). By AI agents, Wed Nov 11 2026. No macro, syntax, notation, axiom, sorry.
-/
import Derived.Test.YtedgnigogkmgkaaGreatDoorChecked
import GoSem.Claim
import GoSem.ClaimJoined
import GoSem.ClaimMapViews
import Derived.JoinedTies
import Derived.KernelRfl
namespace Go.Proofs.YtedgnigogkmgkaaGreatDoor
/- THE CELL 'sum', in the pinned program and in every row, IS THE sha256 OF THE DUMP (.gsa) THAT YtedgnigogkmgkaaGreatDoorProg.lean LOADS. Nothing in Lean hashes anything: it is a label: what it is worth is what the hold of that sum in a sandbox is worth. -/
noncomputable def Tryz.pinned : Pinned := { name := "ytedgnigogkmgkaagreatdoor", sum := "ca47f5f4ada176c8f9e997e7cee05acaae6b63d30273240313fed3dd46959247", checked := Tryz.checked }
namespace Rows
def none {H : Type} : Left H := { results := [], args := [] }

/- WHAT THE LISTED PACKAGE-LEVEL VARIABLES READ AS WHEN THE CALL BEGINS. Each datum BY PROGRAM (the guide's laid-datum.mjs) off the statement by which the dump's own 'gosem.cut.vars' lays the variable. In a bare row this is a premise. The card (YtedgnigogkmgkaaGreatDoorCards.lean) ties it to the program's text. -/
def laid_reveille_name_endings {H : Type} : DataW H := .agg [.agg [.lit (.string [46, 115, 101, 114, 118, 105, 99, 101]), .lit (.int .i64 1)], .agg [.lit (.string [46, 115, 111, 99, 107, 101, 116]), .lit (.int .i64 2)], .agg [.lit (.string [46, 116, 105, 109, 101, 114]), .lit (.int .i64 3)], .agg [.lit (.string [46, 112, 97, 116, 104]), .lit (.int .i64 4)], .agg [.lit (.string [46, 109, 111, 117, 110, 116]), .lit (.int .i64 5)], .agg [.lit (.string [46, 116, 97, 114, 103, 101, 116]), .lit (.int .i64 6)]]

/-- 'reveillelaw15.GraphWalks': WHATEVER THE INPUT: true; the input reads as it did. -/
def graphWalksSpec : ChangeSpec := { name := "graphWalks", fn := fun _ => fun
  | [d1, d2] => { results := [.lit (.bool true)], args := [d1, d2] }
  | _ => none }
def graphWalksRow : OpenClaim := { program := "ytedgnigogkmgkaagreatdoor", sum := "ca47f5f4ada176c8f9e997e7cee05acaae6b63d30273240313fed3dd46959247", func := "reveille/reveillelaw15.GraphWalks", spec := "graphWalks", inPlace := ["internal/bytealg.IndexByteString", "internal/bytealg.IndexString"], unfollowed := true, recurses := true, named := ["reveille/name.endings", "internal/bytealg.MaxLen"], plainKeys := false, apart := false, laid := [("reveille/name.endings", laid_reveille_name_endings)] }
def GraphWalksSaid : Prop := graphWalksRow.holds Tryz.pinned (OpenSpec.ofChange graphWalksSpec)

/-- ITS FALSE NEIGHBOUR: 'it returns false'. Refute it at one input. -/
def graphWalksWrong : ChangeSpec := { name := "graphWalks", fn := fun _ => fun
  | [d1, d2] => { results := [.lit (.bool false)], args := [d1, d2] }
  | _ => none }
def GraphWalksWrongFalsely : Prop := graphWalksRow.holds Tryz.pinned (OpenSpec.ofChange graphWalksWrong)

/-- 'reveillelaw16.OrderTells': WHATEVER THE INPUT: true; the input reads as it did. -/
def orderTellsSpec : ChangeSpec := { name := "orderTells", fn := fun _ => fun
  | [d1, d2, d3] => { results := [.lit (.bool true)], args := [d1, d2, d3] }
  | _ => none }
def orderTellsRow : OpenClaim := { program := "ytedgnigogkmgkaagreatdoor", sum := "ca47f5f4ada176c8f9e997e7cee05acaae6b63d30273240313fed3dd46959247", func := "reveille/reveillelaw16.OrderTells", spec := "orderTells", inPlace := ["internal/bytealg.IndexByteString", "internal/bytealg.IndexString", "internal/bytealg.abigen_runtime_cmpstring"], unfollowed := true, recurses := true, named := ["reveille/name.endings", "internal/bytealg.MaxLen"], plainKeys := false, apart := false, laid := [("reveille/name.endings", laid_reveille_name_endings)] }
def OrderTellsSaid : Prop := orderTellsRow.holds Tryz.pinned (OpenSpec.ofChange orderTellsSpec)

/-- ITS FALSE NEIGHBOUR: 'it returns false'. Refute it at one input. -/
def orderTellsWrong : ChangeSpec := { name := "orderTells", fn := fun _ => fun
  | [d1, d2, d3] => { results := [.lit (.bool false)], args := [d1, d2, d3] }
  | _ => none }
def OrderTellsWrongFalsely : Prop := orderTellsRow.holds Tryz.pinned (OpenSpec.ofChange orderTellsWrong)

/-- 'reveillelaw16.OrderSorts': WHATEVER THE INPUT: true; the input reads as it did. -/
def orderSortsSpec : ChangeSpec := { name := "orderSorts", fn := fun _ => fun
  | [d1, d2, d3] => { results := [.lit (.bool true)], args := [d1, d2, d3] }
  | _ => none }
def orderSortsRow : OpenClaim := { program := "ytedgnigogkmgkaagreatdoor", sum := "ca47f5f4ada176c8f9e997e7cee05acaae6b63d30273240313fed3dd46959247", func := "reveille/reveillelaw16.OrderSorts", spec := "orderSorts", inPlace := ["internal/bytealg.IndexByteString", "internal/bytealg.IndexString", "internal/bytealg.abigen_runtime_cmpstring"], unfollowed := true, recurses := true, named := ["reveille/name.endings", "internal/bytealg.MaxLen"], plainKeys := false, apart := false, laid := [("reveille/name.endings", laid_reveille_name_endings)] }
def OrderSortsSaid : Prop := orderSortsRow.holds Tryz.pinned (OpenSpec.ofChange orderSortsSpec)

/-- ITS FALSE NEIGHBOUR: 'it returns false'. Refute it at one input. -/
def orderSortsWrong : ChangeSpec := { name := "orderSorts", fn := fun _ => fun
  | [d1, d2, d3] => { results := [.lit (.bool false)], args := [d1, d2, d3] }
  | _ => none }
def OrderSortsWrongFalsely : Prop := orderSortsRow.holds Tryz.pinned (OpenSpec.ofChange orderSortsWrong)

/-- 'reveillelaw16.OrderRows': WHATEVER THE INPUT: true; the input reads as it did. -/
def orderRowsSpec : ChangeSpec := { name := "orderRows", fn := fun _ => fun
  | [d1, d2, d3] => { results := [.lit (.bool true)], args := [d1, d2, d3] }
  | _ => none }
def orderRowsRow : OpenClaim := { program := "ytedgnigogkmgkaagreatdoor", sum := "ca47f5f4ada176c8f9e997e7cee05acaae6b63d30273240313fed3dd46959247", func := "reveille/reveillelaw16.OrderRows", spec := "orderRows", inPlace := ["internal/bytealg.IndexByteString", "internal/bytealg.IndexString", "internal/bytealg.abigen_runtime_cmpstring"], unfollowed := true, recurses := true, named := ["reveille/name.endings", "internal/bytealg.MaxLen"], plainKeys := false, apart := false, laid := [("reveille/name.endings", laid_reveille_name_endings)] }
def OrderRowsSaid : Prop := orderRowsRow.holds Tryz.pinned (OpenSpec.ofChange orderRowsSpec)

/-- ITS FALSE NEIGHBOUR: 'it returns false'. Refute it at one input. -/
def orderRowsWrong : ChangeSpec := { name := "orderRows", fn := fun _ => fun
  | [d1, d2, d3] => { results := [.lit (.bool false)], args := [d1, d2, d3] }
  | _ => none }
def OrderRowsWrongFalsely : Prop := orderRowsRow.holds Tryz.pinned (OpenSpec.ofChange orderRowsWrong)

/-- 'reveillelaw16.OrderCircle': WHATEVER THE INPUT: true; the input reads as it did. -/
def orderCircleSpec : ChangeSpec := { name := "orderCircle", fn := fun _ => fun
  | [d1, d2, d3] => { results := [.lit (.bool true)], args := [d1, d2, d3] }
  | _ => none }
def orderCircleRow : OpenClaim := { program := "ytedgnigogkmgkaagreatdoor", sum := "ca47f5f4ada176c8f9e997e7cee05acaae6b63d30273240313fed3dd46959247", func := "reveille/reveillelaw16.OrderCircle", spec := "orderCircle", inPlace := ["internal/bytealg.IndexByteString", "internal/bytealg.IndexString", "internal/bytealg.abigen_runtime_cmpstring"], unfollowed := true, recurses := true, named := ["reveille/name.endings", "internal/bytealg.MaxLen"], plainKeys := false, apart := false, laid := [("reveille/name.endings", laid_reveille_name_endings)] }
def OrderCircleSaid : Prop := orderCircleRow.holds Tryz.pinned (OpenSpec.ofChange orderCircleSpec)

/-- ITS FALSE NEIGHBOUR: 'it returns false'. Refute it at one input. -/
def orderCircleWrong : ChangeSpec := { name := "orderCircle", fn := fun _ => fun
  | [d1, d2, d3] => { results := [.lit (.bool false)], args := [d1, d2, d3] }
  | _ => none }
def OrderCircleWrongFalsely : Prop := orderCircleRow.holds Tryz.pinned (OpenSpec.ofChange orderCircleWrong)

/-- 'reveillelaw18.JobPlays': WHATEVER THE INPUT: true; the input reads as it did. -/
def jobPlaysSpec : ChangeSpec := { name := "jobPlays", fn := fun _ => fun
  | [d1, d2, d3] => { results := [.lit (.bool true)], args := [d1, d2, d3] }
  | _ => none }
def jobPlaysRow : OpenClaim := { program := "ytedgnigogkmgkaagreatdoor", sum := "ca47f5f4ada176c8f9e997e7cee05acaae6b63d30273240313fed3dd46959247", func := "reveille/reveillelaw18.JobPlays", spec := "jobPlays", inPlace := ["internal/bytealg.IndexByteString", "internal/bytealg.IndexString", "internal/bytealg.abigen_runtime_cmpstring"], unfollowed := true, recurses := true, named := ["reveille/name.endings", "internal/bytealg.MaxLen"], plainKeys := false, apart := false, laid := [("reveille/name.endings", laid_reveille_name_endings)] }
def JobPlaysSaid : Prop := jobPlaysRow.holds Tryz.pinned (OpenSpec.ofChange jobPlaysSpec)

/-- ITS FALSE NEIGHBOUR: 'it returns false'. Refute it at one input. -/
def jobPlaysWrong : ChangeSpec := { name := "jobPlays", fn := fun _ => fun
  | [d1, d2, d3] => { results := [.lit (.bool false)], args := [d1, d2, d3] }
  | _ => none }
def JobPlaysWrongFalsely : Prop := jobPlaysRow.holds Tryz.pinned (OpenSpec.ofChange jobPlaysWrong)

/- THE SECOND FORM. 'bulk': how many values and letters a reading holds, each counted each time it is reached (what is shared counts as often as it is met; a slice's spare places count too). A statement '..UptoSaid' is the law's where the arguments, and the package variables that the reading takes, are together of bulk at most 1048576: NARROWER than '..Said'. Prove '..Said' where nothing that the law and all that it calls make is longer than what came in: it says more and counts as full. Else prove '..UptoSaid'. A law counts once. -/
mutual
def uptoBulk {H : Type} : DataW H → Nat
  | .lit (.string bytes) => bytes.length + 1
  | .lit _ => 1
  | .nil => 1
  | .ptr d => uptoBulk d + 1
  | .slice elems spare => uptoBulkAll elems + uptoBulkAll spare + 1
  | .agg parts => uptoBulkAll parts + 1
  | .iface _ d => uptoBulk d + 1
  | .map entries => uptoBulkEntries entries + 1
  | .held _ => 1
def uptoBulkAll {H : Type} : List (DataW H) → Nat
  | [] => 0
  | d :: r => uptoBulk d + uptoBulkAll r
def uptoBulkEntries {H : Type} : List (Lit × DataW H) → Nat
  | [] => 0
  | x :: r => uptoBulkEntry x + uptoBulkEntries r
def uptoBulkEntry {H : Type} : Lit × DataW H → Nat
  | (.string bytes, d) => bytes.length + uptoBulk d + 1
  | (_, d) => uptoBulk d + 1
 end
def uptoSmall : (H : Type) → List (DataW H) → Bool := fun _ ds => decide (uptoBulkAll ds ≤ 1048576)
def OpenSpec.upto (s : _root_.Go.ChangeSpec) : _root_.Go.OpenSpec := { _root_.Go.OpenSpec.ofChange s with cond := some uptoSmall }

/-- 'reveillelaw15.GraphWalks', WHERE WHAT IT READS IS OF BULK AT MOST 1048576: true; the input reads as it did. -/
def graphWalksUptoRow : OpenClaim := { program := "ytedgnigogkmgkaagreatdoor", sum := "ca47f5f4ada176c8f9e997e7cee05acaae6b63d30273240313fed3dd46959247", func := "reveille/reveillelaw15.GraphWalks", spec := "graphWalks", inPlace := ["internal/bytealg.IndexByteString", "internal/bytealg.IndexString"], unfollowed := true, recurses := true, named := ["reveille/name.endings", "internal/bytealg.MaxLen"], plainKeys := false, apart := false, laid := [("reveille/name.endings", laid_reveille_name_endings)], narrowed := true }
def GraphWalksUptoSaid : Prop := graphWalksUptoRow.holds Tryz.pinned (OpenSpec.upto graphWalksSpec)

/-- 'reveillelaw16.OrderTells', WHERE WHAT IT READS IS OF BULK AT MOST 1048576: true; the input reads as it did. -/
def orderTellsUptoRow : OpenClaim := { program := "ytedgnigogkmgkaagreatdoor", sum := "ca47f5f4ada176c8f9e997e7cee05acaae6b63d30273240313fed3dd46959247", func := "reveille/reveillelaw16.OrderTells", spec := "orderTells", inPlace := ["internal/bytealg.IndexByteString", "internal/bytealg.IndexString", "internal/bytealg.abigen_runtime_cmpstring"], unfollowed := true, recurses := true, named := ["reveille/name.endings", "internal/bytealg.MaxLen"], plainKeys := false, apart := false, laid := [("reveille/name.endings", laid_reveille_name_endings)], narrowed := true }
def OrderTellsUptoSaid : Prop := orderTellsUptoRow.holds Tryz.pinned (OpenSpec.upto orderTellsSpec)

/-- 'reveillelaw16.OrderSorts', WHERE WHAT IT READS IS OF BULK AT MOST 1048576: true; the input reads as it did. -/
def orderSortsUptoRow : OpenClaim := { program := "ytedgnigogkmgkaagreatdoor", sum := "ca47f5f4ada176c8f9e997e7cee05acaae6b63d30273240313fed3dd46959247", func := "reveille/reveillelaw16.OrderSorts", spec := "orderSorts", inPlace := ["internal/bytealg.IndexByteString", "internal/bytealg.IndexString", "internal/bytealg.abigen_runtime_cmpstring"], unfollowed := true, recurses := true, named := ["reveille/name.endings", "internal/bytealg.MaxLen"], plainKeys := false, apart := false, laid := [("reveille/name.endings", laid_reveille_name_endings)], narrowed := true }
def OrderSortsUptoSaid : Prop := orderSortsUptoRow.holds Tryz.pinned (OpenSpec.upto orderSortsSpec)

/-- 'reveillelaw16.OrderRows', WHERE WHAT IT READS IS OF BULK AT MOST 1048576: true; the input reads as it did. -/
def orderRowsUptoRow : OpenClaim := { program := "ytedgnigogkmgkaagreatdoor", sum := "ca47f5f4ada176c8f9e997e7cee05acaae6b63d30273240313fed3dd46959247", func := "reveille/reveillelaw16.OrderRows", spec := "orderRows", inPlace := ["internal/bytealg.IndexByteString", "internal/bytealg.IndexString", "internal/bytealg.abigen_runtime_cmpstring"], unfollowed := true, recurses := true, named := ["reveille/name.endings", "internal/bytealg.MaxLen"], plainKeys := false, apart := false, laid := [("reveille/name.endings", laid_reveille_name_endings)], narrowed := true }
def OrderRowsUptoSaid : Prop := orderRowsUptoRow.holds Tryz.pinned (OpenSpec.upto orderRowsSpec)

/-- 'reveillelaw16.OrderCircle', WHERE WHAT IT READS IS OF BULK AT MOST 1048576: true; the input reads as it did. -/
def orderCircleUptoRow : OpenClaim := { program := "ytedgnigogkmgkaagreatdoor", sum := "ca47f5f4ada176c8f9e997e7cee05acaae6b63d30273240313fed3dd46959247", func := "reveille/reveillelaw16.OrderCircle", spec := "orderCircle", inPlace := ["internal/bytealg.IndexByteString", "internal/bytealg.IndexString", "internal/bytealg.abigen_runtime_cmpstring"], unfollowed := true, recurses := true, named := ["reveille/name.endings", "internal/bytealg.MaxLen"], plainKeys := false, apart := false, laid := [("reveille/name.endings", laid_reveille_name_endings)], narrowed := true }
def OrderCircleUptoSaid : Prop := orderCircleUptoRow.holds Tryz.pinned (OpenSpec.upto orderCircleSpec)

/-- 'reveillelaw18.JobPlays', WHERE WHAT IT READS IS OF BULK AT MOST 1048576: true; the input reads as it did. -/
def jobPlaysUptoRow : OpenClaim := { program := "ytedgnigogkmgkaagreatdoor", sum := "ca47f5f4ada176c8f9e997e7cee05acaae6b63d30273240313fed3dd46959247", func := "reveille/reveillelaw18.JobPlays", spec := "jobPlays", inPlace := ["internal/bytealg.IndexByteString", "internal/bytealg.IndexString", "internal/bytealg.abigen_runtime_cmpstring"], unfollowed := true, recurses := true, named := ["reveille/name.endings", "internal/bytealg.MaxLen"], plainKeys := false, apart := false, laid := [("reveille/name.endings", laid_reveille_name_endings)], narrowed := true }
def JobPlaysUptoSaid : Prop := jobPlaysUptoRow.holds Tryz.pinned (OpenSpec.upto jobPlaysSpec)

end Rows
end Go.Proofs.YtedgnigogkmgkaaGreatDoor
