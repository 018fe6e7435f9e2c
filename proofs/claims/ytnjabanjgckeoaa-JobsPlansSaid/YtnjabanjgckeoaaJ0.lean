/- Get; slices.DeleteFunc over a row of texts of the call's own. -/
import Derived.Test.YtnjabanjgckeoaaG21
import Derived.Test.YtnjabanjgckeoaaGGet
namespace Go.Proofs.Ytnjabanjgckeoaa
open Go.RowKit
open Go.ChangeMaps (setBlock)
set_option linter.unusedVariables false
set_option linter.unusedSimpArgs false
set_option maxRecDepth 100000

end Go.Proofs.Ytnjabanjgckeoaa
