/- 'Name' of package path: a range over a string's runes. -/
import Derived.Test.YtnjabanjgckeoaaPName
import Derived.Deep.LoopGhost
namespace Go.Proofs.Ytnjabanjgckeoaa
open Go.RowKit
set_option linter.unusedVariables false
set_option linter.unusedSimpArgs false

theorem iterPos_at {w : World} {k : Nat} {s : ByteArray} {p : Nat} (h : w.heap[k]? = some (.stringIter s p)) : w.iterPos k = p := by simp [World.iterPos, h]
end Go.Proofs.Ytnjabanjgckeoaa
