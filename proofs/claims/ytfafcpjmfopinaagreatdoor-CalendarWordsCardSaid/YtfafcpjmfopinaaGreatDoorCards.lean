/-
  DERIVED. GIVEN WITH THE SEED: THE CARDS: each row of YtfafcpjmfopinaaGreatDoorRows.lean that lists a variable, with what it lists TIED to the program's text (the seventh form; the later family's looks); each row that meets fmt, with fmt's text TOLD by the authors' own Lean function (tested against real Go, not proved from fmt's source: count such statements apart). THE CARD IS WHAT COUNTS. Prove the row's statement (the work); the ties are given (YtfafcpjmfopinaaGreatDoorTie.lean); close each card by the builder's one call (the guide's Derived/Test/ToyasCard.lean, 'card_holds'). Laid BY PROGRAM, IN A SANDBOX (cutbox-door.mjs). By AI agents, Wed Nov 11 2026. No macro, syntax, notation, axiom, sorry.
-/
import Derived.Test.YtfafcpjmfopinaaGreatDoorRows
import GoSem.ClaimSeven
namespace Go.Proofs.YtfafcpjmfopinaaGreatDoor
namespace Rows

/-- THE TIED CARD OF 'reveillelaw3.CalendarWords'. -/
def calendarWordsCard : Claim7 := { stood := { row := calendarWordsRow, standIns := [], harness := (true, "6f387f9d8bf03cd3041347075c588fb3112071577d6336b9f49e54023751faf1"), looks := false }, kinds := [], alts := [], laidByText := true, laidKinds := [.data, .data, .data, .data, .data, .data, .pinned], laidTests := true, laidLooks := .later }
def CalendarWordsCardSaid : Prop := Claim7.holds Tryz.pinned (.plain (OpenSpec.ofChange calendarWordsSpec)) calendarWordsCard

/-- THE SECOND FORM's CARD OF 'reveillelaw3.CalendarWords'. -/
def calendarWordsUptoCard : Claim7 := { stood := { row := calendarWordsUptoRow, standIns := [], harness := (true, "6f387f9d8bf03cd3041347075c588fb3112071577d6336b9f49e54023751faf1"), looks := false }, kinds := [], alts := [], laidByText := true, laidKinds := [.data, .data, .data, .data, .data, .data, .pinned], laidTests := true, laidLooks := .later }
def CalendarWordsUptoCardSaid : Prop := Claim7.holds Tryz.pinned (.plain (OpenSpec.upto calendarWordsSpec)) calendarWordsUptoCard
end Rows
end Go.Proofs.YtfafcpjmfopinaaGreatDoor
