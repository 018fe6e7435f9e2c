/- 'Compare' and 'Fits' of package ver. -/
import Derived.Test.YtihnjhigemhknaaGreatDoorVe4
import Derived.Deep.RegionHeld3
namespace Go.Proofs.YtihnjhigemhknaaGreatDoor
open Go.RowKit
set_option linter.unusedVariables false
set_option linter.unusedSimpArgs false
set_option maxRecDepth 100000

/-- Whether a version is as it is asked for. -/
def fitsV (l : List UInt8) (way : Int) (m : List UInt8) : Bool := rightV l && (decide (way = 0) || (decide (way = 1) && decide (0 ≤ cmpV l m)) || (decide (way = 2) && decide (cmpV l m = 0)) || (decide (way = 3) && decide (cmpV l m < 0)))
end Go.Proofs.YtihnjhigemhknaaGreatDoor
