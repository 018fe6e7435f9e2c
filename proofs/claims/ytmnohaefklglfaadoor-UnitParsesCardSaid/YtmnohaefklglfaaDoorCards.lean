/-
  DERIVED. GIVEN WITH THE SEED: THE CARDS: each row of YtmnohaefklglfaaDoorRows.lean that lists a variable, with what it lists TIED to the program's text (the seventh form; the later family's looks); each row that meets fmt, with fmt's text TOLD by the authors' own Lean function (tested against real Go, not proved from fmt's source: count such statements apart). THE CARD IS WHAT COUNTS. Prove the row's statement (the work); the ties are given (YtmnohaefklglfaaDoorTie.lean); close each card by the builder's one call (the guide's Derived/Test/ToyasCard.lean, 'card_holds'). Laid BY PROGRAM, IN A SANDBOX (cutbox-door.mjs). By AI agents, Wed Nov 11 2026. No macro, syntax, notation, axiom, sorry.
-/
import Derived.Test.YtmnohaefklglfaaDoorRows
import GoSem.ClaimSeven
namespace Go.Proofs.YtmnohaefklglfaaDoor
namespace Rows

/-- THE TIED CARD OF 'farrierlaw13.UnitParses'. -/
def unitParsesCard : Claim7 := { stood := { row := unitParsesRow, standIns := [], harness := (true, "33966e3973cdd1db0087c7db6896aa72a6e6a91ea14d8fe668b99c1b411320f8"), looks := false }, kinds := [], alts := [], laidByText := true, laidKinds := [.data, .data, .data, .data, .pinned], laidTests := true, laidLooks := .later }
def UnitParsesCardSaid : Prop := Claim7.holds Tryd.pinned (.plain (OpenSpec.ofChange unitParsesSpec)) unitParsesCard

/-- THE TIED CARD OF 'farrierlaw13.UnitLines'. -/
def unitLinesCard : Claim7 := { stood := { row := unitLinesRow, standIns := [], harness := (true, "33966e3973cdd1db0087c7db6896aa72a6e6a91ea14d8fe668b99c1b411320f8"), looks := false }, kinds := [], alts := [], laidByText := true, laidKinds := [.data, .data, .data, .data, .pinned], laidTests := true, laidLooks := .later }
def UnitLinesCardSaid : Prop := Claim7.holds Tryd.pinned (.plain (OpenSpec.ofChange unitLinesSpec)) unitLinesCard

/-- THE TIED CARD OF 'farrierlaw13.UnitTells'. -/
def unitTellsCard : Claim7 := { stood := { row := unitTellsRow, standIns := [], harness := (true, "33966e3973cdd1db0087c7db6896aa72a6e6a91ea14d8fe668b99c1b411320f8"), looks := false }, kinds := [], alts := [], laidByText := true, laidKinds := [.data, .data, .data, .data, .pinned], laidTests := true, laidLooks := .later }
def UnitTellsCardSaid : Prop := Claim7.holds Tryd.pinned (.plain (OpenSpec.ofChange unitTellsSpec)) unitTellsCard

/-- THE SECOND FORM's CARD OF 'farrierlaw13.UnitParses'. -/
def unitParsesUptoCard : Claim7 := { stood := { row := unitParsesUptoRow, standIns := [], harness := (true, "33966e3973cdd1db0087c7db6896aa72a6e6a91ea14d8fe668b99c1b411320f8"), looks := false }, kinds := [], alts := [], laidByText := true, laidKinds := [.data, .data, .data, .data, .pinned], laidTests := true, laidLooks := .later }
def UnitParsesUptoCardSaid : Prop := Claim7.holds Tryd.pinned (.plain (OpenSpec.upto unitParsesSpec)) unitParsesUptoCard

/-- THE SECOND FORM's CARD OF 'farrierlaw13.UnitLines'. -/
def unitLinesUptoCard : Claim7 := { stood := { row := unitLinesUptoRow, standIns := [], harness := (true, "33966e3973cdd1db0087c7db6896aa72a6e6a91ea14d8fe668b99c1b411320f8"), looks := false }, kinds := [], alts := [], laidByText := true, laidKinds := [.data, .data, .data, .data, .pinned], laidTests := true, laidLooks := .later }
def UnitLinesUptoCardSaid : Prop := Claim7.holds Tryd.pinned (.plain (OpenSpec.upto unitLinesSpec)) unitLinesUptoCard

/-- THE SECOND FORM's CARD OF 'farrierlaw13.UnitTells'. -/
def unitTellsUptoCard : Claim7 := { stood := { row := unitTellsUptoRow, standIns := [], harness := (true, "33966e3973cdd1db0087c7db6896aa72a6e6a91ea14d8fe668b99c1b411320f8"), looks := false }, kinds := [], alts := [], laidByText := true, laidKinds := [.data, .data, .data, .data, .pinned], laidTests := true, laidLooks := .later }
def UnitTellsUptoCardSaid : Prop := Claim7.holds Tryd.pinned (.plain (OpenSpec.upto unitTellsSpec)) unitTellsUptoCard
end Rows
end Go.Proofs.YtmnohaefklglfaaDoor
