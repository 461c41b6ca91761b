/-
  DERIVED. GIVEN WITH THE SEED: THE CARDS: each row of YtfjbonhlokbhpaaDoorRows.lean that lists a variable, with what it lists TIED to the program's text (the seventh form; the later family's looks); each row that meets fmt, with fmt's text TOLD by the authors' own Lean function (tested against real Go, not proved from fmt's source: count such statements apart). THE CARD IS WHAT COUNTS. Prove the row's statement (the work); the ties are given (YtfjbonhlokbhpaaDoorTie.lean); close each card by the builder's one call (the guide's Derived/Test/ToyasCard.lean, 'card_holds'). Laid BY PROGRAM, IN A SANDBOX (cutbox-door.mjs). By AI agents, Wed Nov 11 2026. No macro, syntax, notation, axiom, sorry.
-/
import Derived.Test.YtfjbonhlokbhpaaDoorRows
import GoSem.ClaimSeven
namespace Go.Proofs.YtfjbonhlokbhpaaDoor
namespace Rows

/-- THE TIED CARD OF 'reveillelaw3.CalendarFrom'. -/
def calendarFromCard : Claim7 := { stood := { row := calendarFromRow, standIns := [], harness := (true, "466c66899ddf9402b3efa435619a897317bdbe6d708e1de66af119452a74d901"), looks := false }, kinds := [], alts := [], laidByText := true, laidKinds := [.data, .data, .data, .pinned], laidTests := true, laidLooks := .later }
def CalendarFromCardSaid : Prop := Claim7.holds Tryd.pinned (.plain (OpenSpec.ofChange calendarFromSpec)) calendarFromCard

/-- THE TIED CARD OF 'reveillelaw3.CalendarGaps'. -/
def calendarGapsCard : Claim7 := { stood := { row := calendarGapsRow, standIns := [], harness := (true, "466c66899ddf9402b3efa435619a897317bdbe6d708e1de66af119452a74d901"), looks := false }, kinds := [], alts := [], laidByText := true, laidKinds := [.data, .data, .data, .pinned], laidTests := true, laidLooks := .later }
def CalendarGapsCardSaid : Prop := Claim7.holds Tryd.pinned (.plain (OpenSpec.ofChange calendarGapsSpec)) calendarGapsCard

/-- THE TIED CARD OF 'reveillelaw3.CalendarDaily'. -/
def calendarDailyCard : Claim7 := { stood := { row := calendarDailyRow, standIns := [], harness := (true, "466c66899ddf9402b3efa435619a897317bdbe6d708e1de66af119452a74d901"), looks := false }, kinds := [], alts := [], laidByText := true, laidKinds := [.data, .data, .data, .pinned], laidTests := true, laidLooks := .later }
def CalendarDailyCardSaid : Prop := Claim7.holds Tryd.pinned (.plain (OpenSpec.ofChange calendarDailySpec)) calendarDailyCard

/-- THE TIED CARD OF 'reveillelaw3.CalendarWeekly'. -/
def calendarWeeklyCard : Claim7 := { stood := { row := calendarWeeklyRow, standIns := [], harness := (true, "466c66899ddf9402b3efa435619a897317bdbe6d708e1de66af119452a74d901"), looks := false }, kinds := [], alts := [], laidByText := true, laidKinds := [.data, .data, .data, .pinned], laidTests := true, laidLooks := .later }
def CalendarWeeklyCardSaid : Prop := Claim7.holds Tryd.pinned (.plain (OpenSpec.ofChange calendarWeeklySpec)) calendarWeeklyCard

/-- THE TIED CARD OF 'reveillelaw3.CalendarSteps'. -/
def calendarStepsCard : Claim7 := { stood := { row := calendarStepsRow, standIns := [], harness := (true, "466c66899ddf9402b3efa435619a897317bdbe6d708e1de66af119452a74d901"), looks := false }, kinds := [], alts := [], laidByText := true, laidKinds := [.data, .data, .data, .pinned], laidTests := true, laidLooks := .later }
def CalendarStepsCardSaid : Prop := Claim7.holds Tryd.pinned (.plain (OpenSpec.ofChange calendarStepsSpec)) calendarStepsCard

/-- THE SECOND FORM's CARD OF 'reveillelaw3.CalendarFrom'. -/
def calendarFromUptoCard : Claim7 := { stood := { row := calendarFromUptoRow, standIns := [], harness := (true, "466c66899ddf9402b3efa435619a897317bdbe6d708e1de66af119452a74d901"), looks := false }, kinds := [], alts := [], laidByText := true, laidKinds := [.data, .data, .data, .pinned], laidTests := true, laidLooks := .later }
def CalendarFromUptoCardSaid : Prop := Claim7.holds Tryd.pinned (.plain (OpenSpec.upto calendarFromSpec)) calendarFromUptoCard

/-- THE SECOND FORM's CARD OF 'reveillelaw3.CalendarGaps'. -/
def calendarGapsUptoCard : Claim7 := { stood := { row := calendarGapsUptoRow, standIns := [], harness := (true, "466c66899ddf9402b3efa435619a897317bdbe6d708e1de66af119452a74d901"), looks := false }, kinds := [], alts := [], laidByText := true, laidKinds := [.data, .data, .data, .pinned], laidTests := true, laidLooks := .later }
def CalendarGapsUptoCardSaid : Prop := Claim7.holds Tryd.pinned (.plain (OpenSpec.upto calendarGapsSpec)) calendarGapsUptoCard

/-- THE SECOND FORM's CARD OF 'reveillelaw3.CalendarDaily'. -/
def calendarDailyUptoCard : Claim7 := { stood := { row := calendarDailyUptoRow, standIns := [], harness := (true, "466c66899ddf9402b3efa435619a897317bdbe6d708e1de66af119452a74d901"), looks := false }, kinds := [], alts := [], laidByText := true, laidKinds := [.data, .data, .data, .pinned], laidTests := true, laidLooks := .later }
def CalendarDailyUptoCardSaid : Prop := Claim7.holds Tryd.pinned (.plain (OpenSpec.upto calendarDailySpec)) calendarDailyUptoCard

/-- THE SECOND FORM's CARD OF 'reveillelaw3.CalendarWeekly'. -/
def calendarWeeklyUptoCard : Claim7 := { stood := { row := calendarWeeklyUptoRow, standIns := [], harness := (true, "466c66899ddf9402b3efa435619a897317bdbe6d708e1de66af119452a74d901"), looks := false }, kinds := [], alts := [], laidByText := true, laidKinds := [.data, .data, .data, .pinned], laidTests := true, laidLooks := .later }
def CalendarWeeklyUptoCardSaid : Prop := Claim7.holds Tryd.pinned (.plain (OpenSpec.upto calendarWeeklySpec)) calendarWeeklyUptoCard

/-- THE SECOND FORM's CARD OF 'reveillelaw3.CalendarSteps'. -/
def calendarStepsUptoCard : Claim7 := { stood := { row := calendarStepsUptoRow, standIns := [], harness := (true, "466c66899ddf9402b3efa435619a897317bdbe6d708e1de66af119452a74d901"), looks := false }, kinds := [], alts := [], laidByText := true, laidKinds := [.data, .data, .data, .pinned], laidTests := true, laidLooks := .later }
def CalendarStepsUptoCardSaid : Prop := Claim7.holds Tryd.pinned (.plain (OpenSpec.upto calendarStepsSpec)) calendarStepsUptoCard
end Rows
end Go.Proofs.YtfjbonhlokbhpaaDoor
