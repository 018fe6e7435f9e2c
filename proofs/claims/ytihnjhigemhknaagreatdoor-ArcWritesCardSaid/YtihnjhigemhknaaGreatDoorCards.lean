/-
  DERIVED. GIVEN WITH THE SEED: THE CARDS: each row of YtihnjhigemhknaaGreatDoorRows.lean that lists a variable, with what it lists TIED to the program's text (the seventh form; the later family's looks); each row that meets fmt, with fmt's text TOLD by the authors' own Lean function (tested against real Go, not proved from fmt's source: count such statements apart). THE CARD IS WHAT COUNTS. Prove the row's statement (the work); the ties are given (YtihnjhigemhknaaGreatDoorTie.lean); close each card by the builder's one call (the guide's Derived/Test/ToyasCard.lean, 'card_holds'). Laid BY PROGRAM, IN A SANDBOX (cutbox-door.mjs). By AI agents, Wed Nov 11 2026. No macro, syntax, notation, axiom, sorry.
-/
import Derived.Test.YtihnjhigemhknaaGreatDoorRows
import GoSem.ClaimSeven
namespace Go.Proofs.YtihnjhigemhknaaGreatDoor
namespace Rows

/-- THE TIED CARD OF 'farrierlaw10.ArcWrites'. -/
def arcWritesCard : Claim7 := { stood := { row := arcWritesRow, standIns := [], harness := (true, "4d124b47efb76a93748a1113a5574ed62dd72f38776c413de2e841eebeda49e3"), looks := true }, kinds := [], alts := [], laidByText := true, laidKinds := [.data, .data, .data, .data, .sentinel, .sentinel, .pinned], laidTests := true, laidLooks := .later }
def ArcWritesCardSaid : Prop := Claim7.holds Tryz.pinned (.plain (OpenSpec.ofChange arcWritesSpec)) arcWritesCard

/-- THE TIED CARD OF 'farrierlaw10.ArcReads'. -/
def arcReadsCard : Claim7 := { stood := { row := arcReadsRow, standIns := [], harness := (true, "4d124b47efb76a93748a1113a5574ed62dd72f38776c413de2e841eebeda49e3"), looks := true }, kinds := [], alts := [], laidByText := true, laidKinds := [.data, .data, .data, .data, .sentinel, .sentinel, .pinned], laidTests := true, laidLooks := .later }
def ArcReadsCardSaid : Prop := Claim7.holds Tryz.pinned (.plain (OpenSpec.ofChange arcReadsSpec)) arcReadsCard

/-- THE TIED CARD OF 'farrierlaw10.ArcSpoils'. -/
def arcSpoilsCard : Claim7 := { stood := { row := arcSpoilsRow, standIns := [], harness := (true, "4d124b47efb76a93748a1113a5574ed62dd72f38776c413de2e841eebeda49e3"), looks := true }, kinds := [], alts := [], laidByText := true, laidKinds := [.data, .data, .data, .data, .sentinel, .sentinel, .pinned], laidTests := true, laidLooks := .later }
def ArcSpoilsCardSaid : Prop := Claim7.holds Tryz.pinned (.plain (OpenSpec.ofChange arcSpoilsSpec)) arcSpoilsCard

/-- THE SECOND FORM's CARD OF 'farrierlaw10.ArcWrites'. -/
def arcWritesUptoCard : Claim7 := { stood := { row := arcWritesUptoRow, standIns := [], harness := (true, "4d124b47efb76a93748a1113a5574ed62dd72f38776c413de2e841eebeda49e3"), looks := true }, kinds := [], alts := [], laidByText := true, laidKinds := [.data, .data, .data, .data, .sentinel, .sentinel, .pinned], laidTests := true, laidLooks := .later }
def ArcWritesUptoCardSaid : Prop := Claim7.holds Tryz.pinned (.plain (OpenSpec.upto arcWritesSpec)) arcWritesUptoCard

/-- THE SECOND FORM's CARD OF 'farrierlaw10.ArcReads'. -/
def arcReadsUptoCard : Claim7 := { stood := { row := arcReadsUptoRow, standIns := [], harness := (true, "4d124b47efb76a93748a1113a5574ed62dd72f38776c413de2e841eebeda49e3"), looks := true }, kinds := [], alts := [], laidByText := true, laidKinds := [.data, .data, .data, .data, .sentinel, .sentinel, .pinned], laidTests := true, laidLooks := .later }
def ArcReadsUptoCardSaid : Prop := Claim7.holds Tryz.pinned (.plain (OpenSpec.upto arcReadsSpec)) arcReadsUptoCard

/-- THE SECOND FORM's CARD OF 'farrierlaw10.ArcSpoils'. -/
def arcSpoilsUptoCard : Claim7 := { stood := { row := arcSpoilsUptoRow, standIns := [], harness := (true, "4d124b47efb76a93748a1113a5574ed62dd72f38776c413de2e841eebeda49e3"), looks := true }, kinds := [], alts := [], laidByText := true, laidKinds := [.data, .data, .data, .data, .sentinel, .sentinel, .pinned], laidTests := true, laidLooks := .later }
def ArcSpoilsUptoCardSaid : Prop := Claim7.holds Tryz.pinned (.plain (OpenSpec.upto arcSpoilsSpec)) arcSpoilsUptoCard
end Rows
end Go.Proofs.YtihnjhigemhknaaGreatDoor
