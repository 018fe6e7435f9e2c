/-
  DERIVED. GIVEN WITH THE SEED: THE CARDS: each row of YtkhnkidggcjfeaaGreatDoorRows.lean that lists a variable, with what it lists TIED to the program's text (the seventh form; the later family's looks); each row that meets fmt, with fmt's text TOLD by the authors' own Lean function (tested against real Go, not proved from fmt's source: count such statements apart). THE CARD IS WHAT COUNTS. Prove the row's statement (the work); the ties are given (YtkhnkidggcjfeaaGreatDoorTie.lean); close each card by the builder's one call (the guide's Derived/Test/ToyasCard.lean, 'card_holds'). Laid BY PROGRAM, IN A SANDBOX (cutbox-door.mjs). By AI agents, Wed Nov 11 2026. No macro, syntax, notation, axiom, sorry.
-/
import Derived.Test.YtkhnkidggcjfeaaGreatDoorRows
import GoSem.ClaimSeven
namespace Go.Proofs.YtkhnkidggcjfeaaGreatDoor
namespace Rows

/-- THE TIED CARD OF 'farrierlaw17.NeedHits'. -/
def needHitsCard : Claim7 := { stood := { row := needHitsRow, standIns := [], harness := (true, "3d7530e39c5c458f140b0071a0032f5c6012c76377292e63e8569591a454a325"), looks := true }, kinds := [], alts := [], laidByText := true, laidKinds := [.data, .pinned], laidTests := true, laidLooks := .later }
def NeedHitsCardSaid : Prop := Claim7.holds Tryz.pinned (.plain (OpenSpec.ofChange needHitsSpec)) needHitsCard

/-- THE TIED CARD OF 'farrierlaw17.NeedNone'. -/
def needNoneCard : Claim7 := { stood := { row := needNoneRow, standIns := [], harness := (true, "3d7530e39c5c458f140b0071a0032f5c6012c76377292e63e8569591a454a325"), looks := true }, kinds := [], alts := [], laidByText := true, laidKinds := [.data, .pinned], laidTests := true, laidLooks := .later }
def NeedNoneCardSaid : Prop := Claim7.holds Tryz.pinned (.plain (OpenSpec.ofChange needNoneSpec)) needNoneCard

/-- THE SECOND FORM's CARD OF 'farrierlaw17.NeedHits'. -/
def needHitsUptoCard : Claim7 := { stood := { row := needHitsUptoRow, standIns := [], harness := (true, "3d7530e39c5c458f140b0071a0032f5c6012c76377292e63e8569591a454a325"), looks := true }, kinds := [], alts := [], laidByText := true, laidKinds := [.data, .pinned], laidTests := true, laidLooks := .later }
def NeedHitsUptoCardSaid : Prop := Claim7.holds Tryz.pinned (.plain (OpenSpec.upto needHitsSpec)) needHitsUptoCard

/-- THE SECOND FORM's CARD OF 'farrierlaw17.NeedNone'. -/
def needNoneUptoCard : Claim7 := { stood := { row := needNoneUptoRow, standIns := [], harness := (true, "3d7530e39c5c458f140b0071a0032f5c6012c76377292e63e8569591a454a325"), looks := true }, kinds := [], alts := [], laidByText := true, laidKinds := [.data, .pinned], laidTests := true, laidLooks := .later }
def NeedNoneUptoCardSaid : Prop := Claim7.holds Tryz.pinned (.plain (OpenSpec.upto needNoneSpec)) needNoneUptoCard
end Rows
end Go.Proofs.YtkhnkidggcjfeaaGreatDoor
