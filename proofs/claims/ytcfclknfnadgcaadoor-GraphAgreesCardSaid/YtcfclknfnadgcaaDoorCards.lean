/-
  DERIVED. GIVEN WITH THE SEED: THE CARDS: each row of YtcfclknfnadgcaaDoorRows.lean that lists a variable, with what it lists TIED to the program's text (the seventh form; the later family's looks); each row that meets fmt, with fmt's text TOLD by the authors' own Lean function (tested against real Go, not proved from fmt's source: count such statements apart). THE CARD IS WHAT COUNTS. Prove the row's statement (the work); the ties are given (YtcfclknfnadgcaaDoorTie.lean); close each card by the builder's one call (the guide's Derived/Test/ToyasCard.lean, 'card_holds'). Laid BY PROGRAM, IN A SANDBOX (cutbox-door.mjs). By AI agents, Wed Nov 11 2026. No macro, syntax, notation, axiom, sorry.
-/
import Derived.Test.YtcfclknfnadgcaaDoorRows
import GoSem.ClaimSeven
namespace Go.Proofs.YtcfclknfnadgcaaDoor
namespace Rows

/-- THE TIED CARD OF 'reveillelaw15.GraphAgrees'. -/
def graphAgreesCard : Claim7 := { stood := { row := graphAgreesRow, standIns := [], harness := (true, "085c362bd8634ff6ed9947864b62facee4314c0095028a92788abf07e8bfba8e"), looks := false }, kinds := [], alts := [], laidByText := true, laidKinds := [.data], laidTests := true, laidLooks := .later }
def GraphAgreesCardSaid : Prop := Claim7.holds Tryd.pinned (.plain (OpenSpec.ofChange graphAgreesSpec)) graphAgreesCard

/-- THE TIED CARD OF 'reveillelaw15.GraphFull'. -/
def graphFullCard : Claim7 := { stood := { row := graphFullRow, standIns := [], harness := (true, "085c362bd8634ff6ed9947864b62facee4314c0095028a92788abf07e8bfba8e"), looks := false }, kinds := [], alts := [], laidByText := true, laidKinds := [.data], laidTests := true, laidLooks := .later }
def GraphFullCardSaid : Prop := Claim7.holds Tryd.pinned (.plain (OpenSpec.ofChange graphFullSpec)) graphFullCard

/-- THE TIED CARD OF 'reveillelaw15.GraphDefaults'. -/
def graphDefaultsCard : Claim7 := { stood := { row := graphDefaultsRow, standIns := [], harness := (true, "085c362bd8634ff6ed9947864b62facee4314c0095028a92788abf07e8bfba8e"), looks := false }, kinds := [], alts := [], laidByText := true, laidKinds := [.data], laidTests := true, laidLooks := .later }
def GraphDefaultsCardSaid : Prop := Claim7.holds Tryd.pinned (.plain (OpenSpec.ofChange graphDefaultsSpec)) graphDefaultsCard

/-- THE SECOND FORM's CARD OF 'reveillelaw15.GraphAgrees'. -/
def graphAgreesUptoCard : Claim7 := { stood := { row := graphAgreesUptoRow, standIns := [], harness := (true, "085c362bd8634ff6ed9947864b62facee4314c0095028a92788abf07e8bfba8e"), looks := false }, kinds := [], alts := [], laidByText := true, laidKinds := [.data], laidTests := true, laidLooks := .later }
def GraphAgreesUptoCardSaid : Prop := Claim7.holds Tryd.pinned (.plain (OpenSpec.upto graphAgreesSpec)) graphAgreesUptoCard

/-- THE SECOND FORM's CARD OF 'reveillelaw15.GraphFull'. -/
def graphFullUptoCard : Claim7 := { stood := { row := graphFullUptoRow, standIns := [], harness := (true, "085c362bd8634ff6ed9947864b62facee4314c0095028a92788abf07e8bfba8e"), looks := false }, kinds := [], alts := [], laidByText := true, laidKinds := [.data], laidTests := true, laidLooks := .later }
def GraphFullUptoCardSaid : Prop := Claim7.holds Tryd.pinned (.plain (OpenSpec.upto graphFullSpec)) graphFullUptoCard

/-- THE SECOND FORM's CARD OF 'reveillelaw15.GraphDefaults'. -/
def graphDefaultsUptoCard : Claim7 := { stood := { row := graphDefaultsUptoRow, standIns := [], harness := (true, "085c362bd8634ff6ed9947864b62facee4314c0095028a92788abf07e8bfba8e"), looks := false }, kinds := [], alts := [], laidByText := true, laidKinds := [.data], laidTests := true, laidLooks := .later }
def GraphDefaultsUptoCardSaid : Prop := Claim7.holds Tryd.pinned (.plain (OpenSpec.upto graphDefaultsSpec)) graphDefaultsUptoCard
end Rows
end Go.Proofs.YtcfclknfnadgcaaDoor
