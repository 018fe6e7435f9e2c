/- What package log stands on: the contracts of packages disk, rec and crc. -/
import Derived.Test.YtjamolajobemaaaKDisk4
import Derived.Test.YtjamolajobemaaaKRec2
import Derived.Test.YtjamolajobemaaaCOf
namespace Go.Proofs.Ytjamolajobemaaa
open Go.RowKit
end Go.Proofs.Ytjamolajobemaaa
