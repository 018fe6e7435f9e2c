/-
  DERIVED. GIVEN WITH THE SEED: THE CARDS: each row of YtlcepgbliblilaaDoorRows.lean that lists a variable, with what it lists TIED to the program's text (the seventh form; the later family's looks); each row that meets fmt, with fmt's text TOLD by the authors' own Lean function (tested against real Go, not proved from fmt's source: count such statements apart). THE CARD IS WHAT COUNTS. Prove the row's statement (the work); the ties are given (YtlcepgbliblilaaDoorTie.lean); close each card by the builder's one call (the guide's Derived/Test/ToyasCard.lean, 'card_holds'). Laid BY PROGRAM, IN A SANDBOX (cutbox-door.mjs). By AI agents, Wed Nov 11 2026. No macro, syntax, notation, axiom, sorry.
-/
import Derived.Test.YtlcepgbliblilaaDoorRows
import GoSem.ClaimSeven
namespace Go.Proofs.YtlcepgbliblilaaDoor
namespace Rows

/-- THE TIED CARD OF 'farrierlaw09.VerTells'. -/
def verTellsCard : Claim7 := { stood := { row := verTellsRow, standIns := [], harness := (true, "edb281008a29fb9c7c68d9b9a34aa9151022751be9b055c1a931ac2cf4e6ea08"), looks := true }, kinds := [], alts := [], laidByText := true, laidKinds := [.data, .data, .data, .data, .sentinel, .sentinel, .pinned], laidTests := true, laidLooks := .later }
def VerTellsCardSaid : Prop := Claim7.holds Tryd.pinned (.plain (OpenSpec.ofChange verTellsSpec)) verTellsCard

/-- THE TIED CARD OF 'farrierlaw09.VerOrders'. -/
def verOrdersCard : Claim7 := { stood := { row := verOrdersRow, standIns := [], harness := (true, "edb281008a29fb9c7c68d9b9a34aa9151022751be9b055c1a931ac2cf4e6ea08"), looks := true }, kinds := [], alts := [], laidByText := true, laidKinds := [.data, .data, .data, .data, .sentinel, .sentinel, .pinned], laidTests := true, laidLooks := .later }
def VerOrdersCardSaid : Prop := Claim7.holds Tryd.pinned (.plain (OpenSpec.ofChange verOrdersSpec)) verOrdersCard

/-- THE TIED CARD OF 'farrierlaw09.VerFits'. -/
def verFitsCard : Claim7 := { stood := { row := verFitsRow, standIns := [], harness := (true, "edb281008a29fb9c7c68d9b9a34aa9151022751be9b055c1a931ac2cf4e6ea08"), looks := true }, kinds := [], alts := [], laidByText := true, laidKinds := [.data, .data, .data, .data, .sentinel, .sentinel, .pinned], laidTests := true, laidLooks := .later }
def VerFitsCardSaid : Prop := Claim7.holds Tryd.pinned (.plain (OpenSpec.ofChange verFitsSpec)) verFitsCard

/-- THE SECOND FORM's CARD OF 'farrierlaw09.VerTells'. -/
def verTellsUptoCard : Claim7 := { stood := { row := verTellsUptoRow, standIns := [], harness := (true, "edb281008a29fb9c7c68d9b9a34aa9151022751be9b055c1a931ac2cf4e6ea08"), looks := true }, kinds := [], alts := [], laidByText := true, laidKinds := [.data, .data, .data, .data, .sentinel, .sentinel, .pinned], laidTests := true, laidLooks := .later }
def VerTellsUptoCardSaid : Prop := Claim7.holds Tryd.pinned (.plain (OpenSpec.upto verTellsSpec)) verTellsUptoCard

/-- THE SECOND FORM's CARD OF 'farrierlaw09.VerOrders'. -/
def verOrdersUptoCard : Claim7 := { stood := { row := verOrdersUptoRow, standIns := [], harness := (true, "edb281008a29fb9c7c68d9b9a34aa9151022751be9b055c1a931ac2cf4e6ea08"), looks := true }, kinds := [], alts := [], laidByText := true, laidKinds := [.data, .data, .data, .data, .sentinel, .sentinel, .pinned], laidTests := true, laidLooks := .later }
def VerOrdersUptoCardSaid : Prop := Claim7.holds Tryd.pinned (.plain (OpenSpec.upto verOrdersSpec)) verOrdersUptoCard

/-- THE SECOND FORM's CARD OF 'farrierlaw09.VerFits'. -/
def verFitsUptoCard : Claim7 := { stood := { row := verFitsUptoRow, standIns := [], harness := (true, "edb281008a29fb9c7c68d9b9a34aa9151022751be9b055c1a931ac2cf4e6ea08"), looks := true }, kinds := [], alts := [], laidByText := true, laidKinds := [.data, .data, .data, .data, .sentinel, .sentinel, .pinned], laidTests := true, laidLooks := .later }
def VerFitsUptoCardSaid : Prop := Claim7.holds Tryd.pinned (.plain (OpenSpec.upto verFitsSpec)) verFitsUptoCard
end Rows
end Go.Proofs.YtlcepgbliblilaaDoor
