/-
  DERIVED. GIVEN WITH THE SEED: THE CARDS: each row of YtjhaihckbmkiaaaDoorRows.lean that lists a variable, with what it lists TIED to the program's text (the seventh form; the later family's looks); each row that meets fmt, with fmt's text TOLD by the authors' own Lean function (tested against real Go, not proved from fmt's source: count such statements apart). THE CARD IS WHAT COUNTS. Prove the row's statement (the work); the ties are given (YtjhaihckbmkiaaaDoorTie.lean); close each card by the builder's one call (the guide's Derived/Test/ToyasCard.lean, 'card_holds'). Laid BY PROGRAM, IN A SANDBOX (cutbox-door.mjs). By AI agents, Wed Nov 11 2026. No macro, syntax, notation, axiom, sorry.
-/
import Derived.Test.YtjhaihckbmkiaaaDoorRows
import GoSem.ClaimSeven
namespace Go.Proofs.YtjhaihckbmkiaaaDoor
namespace Rows

/-- THE TIED CARD OF 'farrierlaw18.TxnReads'. -/
def txnReadsCard : Claim7 := { stood := { row := txnReadsRow, standIns := [], harness := (true, "5c2f4e168e0a686ee3ba522ad2db04a6a511defb633bc1ad875c9f0efd175b0b"), looks := false }, kinds := [], alts := [], laidByText := true, laidKinds := [.data, .pinned], laidTests := true, laidLooks := .later }
def TxnReadsCardSaid : Prop := Claim7.holds Tryd.pinned (.plain (OpenSpec.ofChange txnReadsSpec)) txnReadsCard

/-- THE TIED CARD OF 'farrierlaw18.TxnLong'. -/
def txnLongCard : Claim7 := { stood := { row := txnLongRow, standIns := [], harness := (true, "5c2f4e168e0a686ee3ba522ad2db04a6a511defb633bc1ad875c9f0efd175b0b"), looks := false }, kinds := [], alts := [], laidByText := true, laidKinds := [.data, .pinned], laidTests := true, laidLooks := .later }
def TxnLongCardSaid : Prop := Claim7.holds Tryd.pinned (.plain (OpenSpec.ofChange txnLongSpec)) txnLongCard

/-- THE SECOND FORM's CARD OF 'farrierlaw18.TxnReads'. -/
def txnReadsUptoCard : Claim7 := { stood := { row := txnReadsUptoRow, standIns := [], harness := (true, "5c2f4e168e0a686ee3ba522ad2db04a6a511defb633bc1ad875c9f0efd175b0b"), looks := false }, kinds := [], alts := [], laidByText := true, laidKinds := [.data, .pinned], laidTests := true, laidLooks := .later }
def TxnReadsUptoCardSaid : Prop := Claim7.holds Tryd.pinned (.plain (OpenSpec.upto txnReadsSpec)) txnReadsUptoCard

/-- THE SECOND FORM's CARD OF 'farrierlaw18.TxnLong'. -/
def txnLongUptoCard : Claim7 := { stood := { row := txnLongUptoRow, standIns := [], harness := (true, "5c2f4e168e0a686ee3ba522ad2db04a6a511defb633bc1ad875c9f0efd175b0b"), looks := false }, kinds := [], alts := [], laidByText := true, laidKinds := [.data, .pinned], laidTests := true, laidLooks := .later }
def TxnLongUptoCardSaid : Prop := Claim7.holds Tryd.pinned (.plain (OpenSpec.upto txnLongSpec)) txnLongUptoCard
end Rows
end Go.Proofs.YtjhaihckbmkiaaaDoor
