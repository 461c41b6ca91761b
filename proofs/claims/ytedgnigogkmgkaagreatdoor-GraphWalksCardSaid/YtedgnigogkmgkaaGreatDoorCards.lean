/-
  DERIVED. GIVEN WITH THE SEED: THE CARDS: each row of YtedgnigogkmgkaaGreatDoorRows.lean that lists a variable, with what it lists TIED to the program's text (the seventh form; the later family's looks); each row that meets fmt, with fmt's text TOLD by the authors' own Lean function (tested against real Go, not proved from fmt's source: count such statements apart). THE CARD IS WHAT COUNTS. Prove the row's statement (the work); the ties are given (YtedgnigogkmgkaaGreatDoorTie.lean); close each card by the builder's one call (the guide's Derived/Test/ToyasCard.lean, 'card_holds'). Laid BY PROGRAM, IN A SANDBOX (cutbox-door.mjs). By AI agents, Wed Nov 11 2026. No macro, syntax, notation, axiom, sorry.
-/
import Derived.Test.YtedgnigogkmgkaaGreatDoorRows
import GoSem.ClaimSeven
namespace Go.Proofs.YtedgnigogkmgkaaGreatDoor
namespace Rows

/-- THE TIED CARD OF 'reveillelaw15.GraphWalks'. -/
def graphWalksCard : Claim7 := { stood := { row := graphWalksRow, standIns := [], harness := (true, "c8c0e4aa1b001741110d915f4df46d1c29d9e8d7f5511798b23d5ec3917c9cff"), looks := true }, kinds := [], alts := [], laidByText := true, laidKinds := [.data], laidTests := true, laidLooks := .later }
def GraphWalksCardSaid : Prop := Claim7.holds Tryz.pinned (.plain (OpenSpec.ofChange graphWalksSpec)) graphWalksCard

/-- THE TIED CARD OF 'reveillelaw16.OrderTells'. -/
def orderTellsCard : Claim7 := { stood := { row := orderTellsRow, standIns := [], harness := (true, "c8c0e4aa1b001741110d915f4df46d1c29d9e8d7f5511798b23d5ec3917c9cff"), looks := true }, kinds := [], alts := [], laidByText := true, laidKinds := [.data], laidTests := true, laidLooks := .later }
def OrderTellsCardSaid : Prop := Claim7.holds Tryz.pinned (.plain (OpenSpec.ofChange orderTellsSpec)) orderTellsCard

/-- THE TIED CARD OF 'reveillelaw16.OrderSorts'. -/
def orderSortsCard : Claim7 := { stood := { row := orderSortsRow, standIns := [], harness := (true, "c8c0e4aa1b001741110d915f4df46d1c29d9e8d7f5511798b23d5ec3917c9cff"), looks := true }, kinds := [], alts := [], laidByText := true, laidKinds := [.data], laidTests := true, laidLooks := .later }
def OrderSortsCardSaid : Prop := Claim7.holds Tryz.pinned (.plain (OpenSpec.ofChange orderSortsSpec)) orderSortsCard

/-- THE TIED CARD OF 'reveillelaw16.OrderRows'. -/
def orderRowsCard : Claim7 := { stood := { row := orderRowsRow, standIns := [], harness := (true, "c8c0e4aa1b001741110d915f4df46d1c29d9e8d7f5511798b23d5ec3917c9cff"), looks := true }, kinds := [], alts := [], laidByText := true, laidKinds := [.data], laidTests := true, laidLooks := .later }
def OrderRowsCardSaid : Prop := Claim7.holds Tryz.pinned (.plain (OpenSpec.ofChange orderRowsSpec)) orderRowsCard

/-- THE TIED CARD OF 'reveillelaw16.OrderCircle'. -/
def orderCircleCard : Claim7 := { stood := { row := orderCircleRow, standIns := [], harness := (true, "c8c0e4aa1b001741110d915f4df46d1c29d9e8d7f5511798b23d5ec3917c9cff"), looks := true }, kinds := [], alts := [], laidByText := true, laidKinds := [.data], laidTests := true, laidLooks := .later }
def OrderCircleCardSaid : Prop := Claim7.holds Tryz.pinned (.plain (OpenSpec.ofChange orderCircleSpec)) orderCircleCard

/-- THE TIED CARD OF 'reveillelaw18.JobPlays'. -/
def jobPlaysCard : Claim7 := { stood := { row := jobPlaysRow, standIns := [], harness := (true, "c8c0e4aa1b001741110d915f4df46d1c29d9e8d7f5511798b23d5ec3917c9cff"), looks := true }, kinds := [], alts := [], laidByText := true, laidKinds := [.data], laidTests := true, laidLooks := .later }
def JobPlaysCardSaid : Prop := Claim7.holds Tryz.pinned (.plain (OpenSpec.ofChange jobPlaysSpec)) jobPlaysCard

/-- THE SECOND FORM's CARD OF 'reveillelaw15.GraphWalks'. -/
def graphWalksUptoCard : Claim7 := { stood := { row := graphWalksUptoRow, standIns := [], harness := (true, "c8c0e4aa1b001741110d915f4df46d1c29d9e8d7f5511798b23d5ec3917c9cff"), looks := true }, kinds := [], alts := [], laidByText := true, laidKinds := [.data], laidTests := true, laidLooks := .later }
def GraphWalksUptoCardSaid : Prop := Claim7.holds Tryz.pinned (.plain (OpenSpec.upto graphWalksSpec)) graphWalksUptoCard

/-- THE SECOND FORM's CARD OF 'reveillelaw16.OrderTells'. -/
def orderTellsUptoCard : Claim7 := { stood := { row := orderTellsUptoRow, standIns := [], harness := (true, "c8c0e4aa1b001741110d915f4df46d1c29d9e8d7f5511798b23d5ec3917c9cff"), looks := true }, kinds := [], alts := [], laidByText := true, laidKinds := [.data], laidTests := true, laidLooks := .later }
def OrderTellsUptoCardSaid : Prop := Claim7.holds Tryz.pinned (.plain (OpenSpec.upto orderTellsSpec)) orderTellsUptoCard

/-- THE SECOND FORM's CARD OF 'reveillelaw16.OrderSorts'. -/
def orderSortsUptoCard : Claim7 := { stood := { row := orderSortsUptoRow, standIns := [], harness := (true, "c8c0e4aa1b001741110d915f4df46d1c29d9e8d7f5511798b23d5ec3917c9cff"), looks := true }, kinds := [], alts := [], laidByText := true, laidKinds := [.data], laidTests := true, laidLooks := .later }
def OrderSortsUptoCardSaid : Prop := Claim7.holds Tryz.pinned (.plain (OpenSpec.upto orderSortsSpec)) orderSortsUptoCard

/-- THE SECOND FORM's CARD OF 'reveillelaw16.OrderRows'. -/
def orderRowsUptoCard : Claim7 := { stood := { row := orderRowsUptoRow, standIns := [], harness := (true, "c8c0e4aa1b001741110d915f4df46d1c29d9e8d7f5511798b23d5ec3917c9cff"), looks := true }, kinds := [], alts := [], laidByText := true, laidKinds := [.data], laidTests := true, laidLooks := .later }
def OrderRowsUptoCardSaid : Prop := Claim7.holds Tryz.pinned (.plain (OpenSpec.upto orderRowsSpec)) orderRowsUptoCard

/-- THE SECOND FORM's CARD OF 'reveillelaw16.OrderCircle'. -/
def orderCircleUptoCard : Claim7 := { stood := { row := orderCircleUptoRow, standIns := [], harness := (true, "c8c0e4aa1b001741110d915f4df46d1c29d9e8d7f5511798b23d5ec3917c9cff"), looks := true }, kinds := [], alts := [], laidByText := true, laidKinds := [.data], laidTests := true, laidLooks := .later }
def OrderCircleUptoCardSaid : Prop := Claim7.holds Tryz.pinned (.plain (OpenSpec.upto orderCircleSpec)) orderCircleUptoCard

/-- THE SECOND FORM's CARD OF 'reveillelaw18.JobPlays'. -/
def jobPlaysUptoCard : Claim7 := { stood := { row := jobPlaysUptoRow, standIns := [], harness := (true, "c8c0e4aa1b001741110d915f4df46d1c29d9e8d7f5511798b23d5ec3917c9cff"), looks := true }, kinds := [], alts := [], laidByText := true, laidKinds := [.data], laidTests := true, laidLooks := .later }
def JobPlaysUptoCardSaid : Prop := Claim7.holds Tryz.pinned (.plain (OpenSpec.upto jobPlaysSpec)) jobPlaysUptoCard
end Rows
end Go.Proofs.YtedgnigogkmgkaaGreatDoor
