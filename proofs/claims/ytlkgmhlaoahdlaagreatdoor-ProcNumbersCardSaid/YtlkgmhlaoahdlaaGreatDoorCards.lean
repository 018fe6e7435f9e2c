/-
  DERIVED. GIVEN WITH THE SEED: THE CARDS: each row of YtlkgmhlaoahdlaaGreatDoorRows.lean that lists a variable, with what it lists TIED to the program's text (the seventh form; the later family's looks); each row that meets fmt, with fmt's text TOLD by the authors' own Lean function (tested against real Go, not proved from fmt's source: count such statements apart). THE CARD IS WHAT COUNTS. Prove the row's statement (the work); the ties are given (YtlkgmhlaoahdlaaGreatDoorTie.lean); close each card by the builder's one call (the guide's Derived/Test/ToyasCard.lean, 'card_holds'). Laid BY PROGRAM, IN A SANDBOX (cutbox-door.mjs). By AI agents, Wed Nov 11 2026. No macro, syntax, notation, axiom, sorry.
-/
import Derived.Test.YtlkgmhlaoahdlaaGreatDoorRows
import GoSem.ClaimSeven
namespace Go.Proofs.YtlkgmhlaoahdlaaGreatDoor
namespace Rows

/-- THE TIED CARD OF 'farrierlaw08.ProcEnds'. -/
def procEndsCard : Claim7 := { stood := { row := procEndsRow, standIns := [], harness := (true, "7f4f9a0799807b8fe87320456f0a5ebe2895aaf8d1f11a42b9102244084bcc59"), looks := true }, kinds := [], alts := [], laidByText := true, laidKinds := [.data, .pinned], laidTests := true, laidLooks := .later }
def ProcEndsCardSaid : Prop := Claim7.holds Tryz.pinned (.plain (OpenSpec.ofChange procEndsSpec)) procEndsCard

/-- THE TIED CARD OF 'farrierlaw08.ProcNumbers'. -/
def procNumbersCard : Claim7 := { stood := { row := procNumbersRow, standIns := [], harness := (true, "7f4f9a0799807b8fe87320456f0a5ebe2895aaf8d1f11a42b9102244084bcc59"), looks := true }, kinds := [], alts := [], laidByText := true, laidKinds := [.data, .pinned], laidTests := true, laidLooks := .later }
def ProcNumbersCardSaid : Prop := Claim7.holds Tryz.pinned (.plain (OpenSpec.ofChange procNumbersSpec)) procNumbersCard

/-- THE SECOND FORM's CARD OF 'farrierlaw08.ProcEnds'. -/
def procEndsUptoCard : Claim7 := { stood := { row := procEndsUptoRow, standIns := [], harness := (true, "7f4f9a0799807b8fe87320456f0a5ebe2895aaf8d1f11a42b9102244084bcc59"), looks := true }, kinds := [], alts := [], laidByText := true, laidKinds := [.data, .pinned], laidTests := true, laidLooks := .later }
def ProcEndsUptoCardSaid : Prop := Claim7.holds Tryz.pinned (.plain (OpenSpec.upto procEndsSpec)) procEndsUptoCard

/-- THE SECOND FORM's CARD OF 'farrierlaw08.ProcNumbers'. -/
def procNumbersUptoCard : Claim7 := { stood := { row := procNumbersUptoRow, standIns := [], harness := (true, "7f4f9a0799807b8fe87320456f0a5ebe2895aaf8d1f11a42b9102244084bcc59"), looks := true }, kinds := [], alts := [], laidByText := true, laidKinds := [.data, .pinned], laidTests := true, laidLooks := .later }
def ProcNumbersUptoCardSaid : Prop := Claim7.holds Tryz.pinned (.plain (OpenSpec.upto procNumbersSpec)) procNumbersUptoCard
end Rows
end Go.Proofs.YtlkgmhlaoahdlaaGreatDoor
