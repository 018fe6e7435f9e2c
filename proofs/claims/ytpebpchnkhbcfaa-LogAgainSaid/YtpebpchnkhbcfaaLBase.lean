/- What package log stands on: the contracts of packages disk, rec and crc. -/
import Derived.Test.YtpebpchnkhbcfaaKDisk4
import Derived.Test.YtpebpchnkhbcfaaKRec2
import Derived.Test.YtpebpchnkhbcfaaCOf
namespace Go.Proofs.Ytpebpchnkhbcfaa
open Go.RowKit
end Go.Proofs.Ytpebpchnkhbcfaa
