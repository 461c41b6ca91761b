/-
  DERIVED. GIVEN WITH THE SEED: THE CARDS: each row of YtlpheplifjeffaaDoorRows.lean that lists a variable, with what it lists TIED to the program's text (the seventh form; the later family's looks); each row that meets fmt, with fmt's text TOLD by the authors' own Lean function (tested against real Go, not proved from fmt's source: count such statements apart). THE CARD IS WHAT COUNTS. Prove the row's statement (the work); the ties are given (YtlpheplifjeffaaDoorTie.lean); close each card by the builder's one call (the guide's Derived/Test/ToyasCard.lean, 'card_holds'). Laid BY PROGRAM, IN A SANDBOX (cutbox-door.mjs). By AI agents, Wed Nov 11 2026. No macro, syntax, notation, axiom, sorry.
-/
import Derived.Test.YtlpheplifjeffaaDoorRows
import GoSem.ClaimSeven
namespace Go.Proofs.YtlpheplifjeffaaDoor
namespace Rows

/-- THE TIED CARD OF 'reveillelaw3.CalendarWeekly'. -/
def calendarWeeklyCard : Claim7 := { stood := { row := calendarWeeklyRow, standIns := [], harness := (true, "41d4d76025efc080cb6184d95aec7d70f5173bcf700143bdec21ac09e062c6e0"), looks := false }, kinds := [], alts := [], laidByText := true, laidKinds := [.data, .data, .data, .pinned], laidTests := true, laidLooks := .later }
def CalendarWeeklyCardSaid : Prop := Claim7.holds Tryd.pinned (.plain (OpenSpec.ofChange calendarWeeklySpec)) calendarWeeklyCard

/-- THE TIED CARD OF 'reveillelaw3.CalendarSteps'. -/
def calendarStepsCard : Claim7 := { stood := { row := calendarStepsRow, standIns := [], harness := (true, "41d4d76025efc080cb6184d95aec7d70f5173bcf700143bdec21ac09e062c6e0"), looks := false }, kinds := [], alts := [], laidByText := true, laidKinds := [.data, .data, .data, .pinned], laidTests := true, laidLooks := .later }
def CalendarStepsCardSaid : Prop := Claim7.holds Tryd.pinned (.plain (OpenSpec.ofChange calendarStepsSpec)) calendarStepsCard

/-- THE TIED CARD OF 'reveillelaw3.CalendarNever'. -/
def calendarNeverCard : Claim7 := { stood := { row := calendarNeverRow, standIns := [], harness := (true, "41d4d76025efc080cb6184d95aec7d70f5173bcf700143bdec21ac09e062c6e0"), looks := false }, kinds := [], alts := [], laidByText := true, laidKinds := [.data, .data, .data, .pinned], laidTests := true, laidLooks := .later }
def CalendarNeverCardSaid : Prop := Claim7.holds Tryd.pinned (.plain (OpenSpec.ofChange calendarNeverSpec)) calendarNeverCard

/-- THE SECOND FORM's CARD OF 'reveillelaw3.CalendarWeekly'. -/
def calendarWeeklyUptoCard : Claim7 := { stood := { row := calendarWeeklyUptoRow, standIns := [], harness := (true, "41d4d76025efc080cb6184d95aec7d70f5173bcf700143bdec21ac09e062c6e0"), looks := false }, kinds := [], alts := [], laidByText := true, laidKinds := [.data, .data, .data, .pinned], laidTests := true, laidLooks := .later }
def CalendarWeeklyUptoCardSaid : Prop := Claim7.holds Tryd.pinned (.plain (OpenSpec.upto calendarWeeklySpec)) calendarWeeklyUptoCard

/-- THE SECOND FORM's CARD OF 'reveillelaw3.CalendarSteps'. -/
def calendarStepsUptoCard : Claim7 := { stood := { row := calendarStepsUptoRow, standIns := [], harness := (true, "41d4d76025efc080cb6184d95aec7d70f5173bcf700143bdec21ac09e062c6e0"), looks := false }, kinds := [], alts := [], laidByText := true, laidKinds := [.data, .data, .data, .pinned], laidTests := true, laidLooks := .later }
def CalendarStepsUptoCardSaid : Prop := Claim7.holds Tryd.pinned (.plain (OpenSpec.upto calendarStepsSpec)) calendarStepsUptoCard

/-- THE SECOND FORM's CARD OF 'reveillelaw3.CalendarNever'. -/
def calendarNeverUptoCard : Claim7 := { stood := { row := calendarNeverUptoRow, standIns := [], harness := (true, "41d4d76025efc080cb6184d95aec7d70f5173bcf700143bdec21ac09e062c6e0"), looks := false }, kinds := [], alts := [], laidByText := true, laidKinds := [.data, .data, .data, .pinned], laidTests := true, laidLooks := .later }
def CalendarNeverUptoCardSaid : Prop := Claim7.holds Tryd.pinned (.plain (OpenSpec.upto calendarNeverSpec)) calendarNeverUptoCard
end Rows
end Go.Proofs.YtlpheplifjeffaaDoor
