/-
  DERIVED. GIVEN WITH THE SEED: THE CARDS: each row of YtdjoahhcmkedhaaGreatDoorRows.lean that lists a variable, with what it lists TIED to the program's text (the seventh form; the later family's looks); each row that meets fmt, with fmt's text TOLD by the authors' own Lean function (tested against real Go, not proved from fmt's source: count such statements apart). THE CARD IS WHAT COUNTS. Prove the row's statement (the work); the ties are given (YtdjoahhcmkedhaaGreatDoorTie.lean); close each card by the builder's one call (the guide's Derived/Test/ToyasCard.lean, 'card_holds'). Laid BY PROGRAM, IN A SANDBOX (cutbox-door.mjs). By AI agents, Wed Nov 11 2026. No macro, syntax, notation, axiom, sorry.
-/
import Derived.Test.YtdjoahhcmkedhaaGreatDoorRows
import GoSem.ClaimSeven
namespace Go.Proofs.YtdjoahhcmkedhaaGreatDoor
namespace Rows

/-- THE TIED CARD OF 'farrierlaw06.TreePlays'. -/
def treePlaysCard : Claim7 := { stood := { row := treePlaysRow, standIns := [], harness := (true, "416a26b7d73c879805cc860a1d9071fac8b032df81902779d13d0662b64ea8d4"), looks := true }, kinds := [], alts := [], laidByText := true, laidKinds := [.data, .pinned], laidTests := true, laidLooks := .later }
def TreePlaysCardSaid : Prop := Claim7.holds Tryz.pinned (.plain (OpenSpec.ofChange treePlaysSpec)) treePlaysCard

/-- THE TIED CARD OF 'farrierlaw06.TreeBad'. -/
def treeBadCard : Claim7 := { stood := { row := treeBadRow, standIns := [], harness := (true, "416a26b7d73c879805cc860a1d9071fac8b032df81902779d13d0662b64ea8d4"), looks := true }, kinds := [], alts := [], laidByText := true, laidKinds := [.data, .pinned], laidTests := true, laidLooks := .later }
def TreeBadCardSaid : Prop := Claim7.holds Tryz.pinned (.plain (OpenSpec.ofChange treeBadSpec)) treeBadCard

/-- THE TIED CARD OF 'farrierlaw06.TreeWhole'. -/
def treeWholeCard : Claim7 := { stood := { row := treeWholeRow, standIns := [], harness := (true, "416a26b7d73c879805cc860a1d9071fac8b032df81902779d13d0662b64ea8d4"), looks := true }, kinds := [], alts := [], laidByText := true, laidKinds := [.data, .pinned], laidTests := true, laidLooks := .later }
def TreeWholeCardSaid : Prop := Claim7.holds Tryz.pinned (.plain (OpenSpec.ofChange treeWholeSpec)) treeWholeCard

/-- THE TIED CARD OF 'farrierlaw06.TreeLinks'. -/
def treeLinksCard : Claim7 := { stood := { row := treeLinksRow, standIns := [], harness := (true, "416a26b7d73c879805cc860a1d9071fac8b032df81902779d13d0662b64ea8d4"), looks := true }, kinds := [], alts := [], laidByText := true, laidKinds := [.data, .pinned], laidTests := true, laidLooks := .later }
def TreeLinksCardSaid : Prop := Claim7.holds Tryz.pinned (.plain (OpenSpec.ofChange treeLinksSpec)) treeLinksCard

/-- THE SECOND FORM's CARD OF 'farrierlaw06.TreePlays'. -/
def treePlaysUptoCard : Claim7 := { stood := { row := treePlaysUptoRow, standIns := [], harness := (true, "416a26b7d73c879805cc860a1d9071fac8b032df81902779d13d0662b64ea8d4"), looks := true }, kinds := [], alts := [], laidByText := true, laidKinds := [.data, .pinned], laidTests := true, laidLooks := .later }
def TreePlaysUptoCardSaid : Prop := Claim7.holds Tryz.pinned (.plain (OpenSpec.upto treePlaysSpec)) treePlaysUptoCard

/-- THE SECOND FORM's CARD OF 'farrierlaw06.TreeBad'. -/
def treeBadUptoCard : Claim7 := { stood := { row := treeBadUptoRow, standIns := [], harness := (true, "416a26b7d73c879805cc860a1d9071fac8b032df81902779d13d0662b64ea8d4"), looks := true }, kinds := [], alts := [], laidByText := true, laidKinds := [.data, .pinned], laidTests := true, laidLooks := .later }
def TreeBadUptoCardSaid : Prop := Claim7.holds Tryz.pinned (.plain (OpenSpec.upto treeBadSpec)) treeBadUptoCard

/-- THE SECOND FORM's CARD OF 'farrierlaw06.TreeWhole'. -/
def treeWholeUptoCard : Claim7 := { stood := { row := treeWholeUptoRow, standIns := [], harness := (true, "416a26b7d73c879805cc860a1d9071fac8b032df81902779d13d0662b64ea8d4"), looks := true }, kinds := [], alts := [], laidByText := true, laidKinds := [.data, .pinned], laidTests := true, laidLooks := .later }
def TreeWholeUptoCardSaid : Prop := Claim7.holds Tryz.pinned (.plain (OpenSpec.upto treeWholeSpec)) treeWholeUptoCard

/-- THE SECOND FORM's CARD OF 'farrierlaw06.TreeLinks'. -/
def treeLinksUptoCard : Claim7 := { stood := { row := treeLinksUptoRow, standIns := [], harness := (true, "416a26b7d73c879805cc860a1d9071fac8b032df81902779d13d0662b64ea8d4"), looks := true }, kinds := [], alts := [], laidByText := true, laidKinds := [.data, .pinned], laidTests := true, laidLooks := .later }
def TreeLinksUptoCardSaid : Prop := Claim7.holds Tryz.pinned (.plain (OpenSpec.upto treeLinksSpec)) treeLinksUptoCard
end Rows
end Go.Proofs.YtdjoahhcmkedhaaGreatDoor
