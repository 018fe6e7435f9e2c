/-
  DERIVED. GIVEN WITH THE SEED: THE CARDS: each row of YtnjabanjgckeoaaGreatDoorRows.lean that lists a variable, with what it lists TIED to the program's text (the seventh form; the later family's looks); each row that meets fmt, with fmt's text TOLD by the authors' own Lean function (tested against real Go, not proved from fmt's source: count such statements apart). THE CARD IS WHAT COUNTS. Prove the row's statement (the work); the ties are given (YtnjabanjgckeoaaGreatDoorTie.lean); close each card by the builder's one call (the guide's Derived/Test/ToyasCard.lean, 'card_holds'). Laid BY PROGRAM, IN A SANDBOX (cutbox-door.mjs). By AI agents, Wed Nov 11 2026. No macro, syntax, notation, axiom, sorry.
-/
import Derived.Test.YtnjabanjgckeoaaGreatDoorRows
import GoSem.ClaimSeven
namespace Go.Proofs.YtnjabanjgckeoaaGreatDoor
namespace Rows

/-- THE TIED CARD OF 'farrierlaw08.ProcEnds'. -/
def procEndsCard : Claim7 := { stood := { row := procEndsRow, standIns := [], harness := (true, "f816b9d5f758c5244e4b4de0d3f0c0dadb1da664127aef9f6fc499aee321d666"), looks := true }, kinds := [], alts := [], laidByText := true, laidKinds := [.data, .pinned], laidTests := true, laidLooks := .later }
def ProcEndsCardSaid : Prop := Claim7.holds Tryz.pinned (.plain (OpenSpec.ofChange procEndsSpec)) procEndsCard

/-- THE TIED CARD OF 'farrierlaw16.MgrPlays'. -/
def mgrPlaysCard : Claim7 := { stood := { row := mgrPlaysRow, standIns := [], harness := (true, "f816b9d5f758c5244e4b4de0d3f0c0dadb1da664127aef9f6fc499aee321d666"), looks := true }, kinds := [], alts := [], laidByText := true, laidKinds := [.data, .pinned], laidTests := true, laidLooks := .later }
def MgrPlaysCardSaid : Prop := Claim7.holds Tryz.pinned (.plain (OpenSpec.ofChange mgrPlaysSpec)) mgrPlaysCard

/-- THE TIED CARD OF 'farrierlaw16.MgrRetries'. -/
def mgrRetriesCard : Claim7 := { stood := { row := mgrRetriesRow, standIns := [], harness := (true, "f816b9d5f758c5244e4b4de0d3f0c0dadb1da664127aef9f6fc499aee321d666"), looks := true }, kinds := [], alts := [], laidByText := true, laidKinds := [.data, .pinned], laidTests := true, laidLooks := .later }
def MgrRetriesCardSaid : Prop := Claim7.holds Tryz.pinned (.plain (OpenSpec.ofChange mgrRetriesSpec)) mgrRetriesCard

/-- THE TIED CARD OF 'farrierlaw16.MgrLoses'. -/
def mgrLosesCard : Claim7 := { stood := { row := mgrLosesRow, standIns := [], harness := (true, "f816b9d5f758c5244e4b4de0d3f0c0dadb1da664127aef9f6fc499aee321d666"), looks := true }, kinds := [], alts := [], laidByText := true, laidKinds := [.data, .pinned], laidTests := true, laidLooks := .later }
def MgrLosesCardSaid : Prop := Claim7.holds Tryz.pinned (.plain (OpenSpec.ofChange mgrLosesSpec)) mgrLosesCard

/-- THE SECOND FORM's CARD OF 'farrierlaw08.ProcEnds'. -/
def procEndsUptoCard : Claim7 := { stood := { row := procEndsUptoRow, standIns := [], harness := (true, "f816b9d5f758c5244e4b4de0d3f0c0dadb1da664127aef9f6fc499aee321d666"), looks := true }, kinds := [], alts := [], laidByText := true, laidKinds := [.data, .pinned], laidTests := true, laidLooks := .later }
def ProcEndsUptoCardSaid : Prop := Claim7.holds Tryz.pinned (.plain (OpenSpec.upto procEndsSpec)) procEndsUptoCard

/-- THE SECOND FORM's CARD OF 'farrierlaw16.MgrPlays'. -/
def mgrPlaysUptoCard : Claim7 := { stood := { row := mgrPlaysUptoRow, standIns := [], harness := (true, "f816b9d5f758c5244e4b4de0d3f0c0dadb1da664127aef9f6fc499aee321d666"), looks := true }, kinds := [], alts := [], laidByText := true, laidKinds := [.data, .pinned], laidTests := true, laidLooks := .later }
def MgrPlaysUptoCardSaid : Prop := Claim7.holds Tryz.pinned (.plain (OpenSpec.upto mgrPlaysSpec)) mgrPlaysUptoCard

/-- THE SECOND FORM's CARD OF 'farrierlaw16.MgrRetries'. -/
def mgrRetriesUptoCard : Claim7 := { stood := { row := mgrRetriesUptoRow, standIns := [], harness := (true, "f816b9d5f758c5244e4b4de0d3f0c0dadb1da664127aef9f6fc499aee321d666"), looks := true }, kinds := [], alts := [], laidByText := true, laidKinds := [.data, .pinned], laidTests := true, laidLooks := .later }
def MgrRetriesUptoCardSaid : Prop := Claim7.holds Tryz.pinned (.plain (OpenSpec.upto mgrRetriesSpec)) mgrRetriesUptoCard

/-- THE SECOND FORM's CARD OF 'farrierlaw16.MgrLoses'. -/
def mgrLosesUptoCard : Claim7 := { stood := { row := mgrLosesUptoRow, standIns := [], harness := (true, "f816b9d5f758c5244e4b4de0d3f0c0dadb1da664127aef9f6fc499aee321d666"), looks := true }, kinds := [], alts := [], laidByText := true, laidKinds := [.data, .pinned], laidTests := true, laidLooks := .later }
def MgrLosesUptoCardSaid : Prop := Claim7.holds Tryz.pinned (.plain (OpenSpec.upto mgrLosesSpec)) mgrLosesUptoCard
end Rows
end Go.Proofs.YtnjabanjgckeoaaGreatDoor
