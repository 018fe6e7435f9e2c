/- The document's example, on plain data. -/
import Derived.Test.YtamkfadammlhbaaGreatDoorTree25
namespace Go.Proofs.YtamkfadammlhbaaGreatDoor
open Go.RowKit
set_option linter.unusedVariables false
set_option linter.unusedSimpArgs false
set_option maxRecDepth 100000

def E0 (q : Int) : Et := ⟨q, 2, [(1, ⟨true, [], [], 0⟩)]⟩
theorem new_rep (b : Nat) (q : Int) : Rep (newT b q) (E0 (max q 0)) := ⟨rfl, rfl, List.Perm.refl _⟩
def one : List Int := [111, 110, 101]
def two : List Int := [116, 119, 111]
/-- /a, /a/f, /g, /h -/
def pA : List UInt8 := [47, 97]
def pAF : List UInt8 := [47, 97, 47, 102]
def pG : List UInt8 := [47, 103]
def pH : List UInt8 := [47, 104]
def pB : List UInt8 := [47, 98]
def EA1 : Et := ⟨10, 4, [(1, ⟨true, [(toB [97], 2), (toB [103], 3)], [], 0⟩), (2, ⟨true, [(toB [102], 3)], [], 0⟩), (3, ⟨false, [], one, 2⟩)]⟩
theorem alive1 : doAllE (E0 10) [⟨0, pA, [], []⟩, ⟨2, pAF, [], one⟩, ⟨4, pAF, pG, []⟩] = some EA1 := by rfl
def EA2 : Et := ⟨10, 5, [(1, ⟨true, [(toB [97], 2), (toB [103], 3)], [], 0⟩), (2, ⟨true, [(toB [102], 4)], [], 0⟩), (3, ⟨false, [], one, 1⟩), (4, ⟨false, [], two, 1⟩)]⟩
theorem alive2 : doAllE EA1 [⟨2, pH, [], two⟩, ⟨5, pH, pAF, []⟩] = some EA2 := by rfl
def EA3 : Et := ⟨10, 5, [(1, ⟨true, [(toB [97], 2)], [], 0⟩), (2, ⟨true, [(toB [102], 4)], [], 0⟩), (3, ⟨false, [], one, 0⟩), (4, ⟨false, [], two, 1⟩)]⟩
theorem alive3 : doAllE EA2 [⟨6, pG, [], []⟩] = some EA3 := by rfl
end Go.Proofs.YtamkfadammlhbaaGreatDoor
