/-
  DERIVED. GIVEN WITH THE SEED: THE CARDS: each row of YtehlnhljpdjppaaGreatDoorRows.lean that lists a variable, with what it lists TIED to the program's text (the seventh form; the later family's looks); each row that meets fmt, with fmt's text TOLD by the authors' own Lean function (tested against real Go, not proved from fmt's source: count such statements apart). THE CARD IS WHAT COUNTS. Prove the row's statement (the work); the ties are given (YtehlnhljpdjppaaGreatDoorTie.lean); close each card by the builder's one call (the guide's Derived/Test/ToyasCard.lean, 'card_holds'). Laid BY PROGRAM, IN A SANDBOX (cutbox-door.mjs). By AI agents, Wed Nov 11 2026. No macro, syntax, notation, axiom, sorry.
-/
import Derived.Test.YtehlnhljpdjppaaGreatDoorRows
import GoSem.ClaimSeven
namespace Go.Proofs.YtehlnhljpdjppaaGreatDoor
namespace Rows

/-- THE TIED CARD OF 'reveillelaw3.CalendarNext'. -/
def calendarNextCard : Claim7 := { stood := { row := calendarNextRow, standIns := [], harness := (true, "7d55ba1100e71d8cef82dea3ffde84a1822b32bf7876b8e0a4b3922549313cf9"), looks := false }, kinds := [], alts := [], laidByText := true, laidKinds := [.data, .data, .data, .pinned], laidTests := true, laidLooks := .later }
def CalendarNextCardSaid : Prop := Claim7.holds Tryz.pinned (.plain (OpenSpec.ofChange calendarNextSpec)) calendarNextCard

/-- THE SECOND FORM's CARD OF 'reveillelaw3.CalendarNext'. -/
def calendarNextUptoCard : Claim7 := { stood := { row := calendarNextUptoRow, standIns := [], harness := (true, "7d55ba1100e71d8cef82dea3ffde84a1822b32bf7876b8e0a4b3922549313cf9"), looks := false }, kinds := [], alts := [], laidByText := true, laidKinds := [.data, .data, .data, .pinned], laidTests := true, laidLooks := .later }
def CalendarNextUptoCardSaid : Prop := Claim7.holds Tryz.pinned (.plain (OpenSpec.upto calendarNextSpec)) calendarNextUptoCard
end Rows
end Go.Proofs.YtehlnhljpdjppaaGreatDoor
