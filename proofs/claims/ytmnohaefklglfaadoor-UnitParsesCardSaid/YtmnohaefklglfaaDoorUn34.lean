/- farrierref13.line: whatever a line begins with. -/
import Derived.Test.YtmnohaefklglfaaDoorUn25
import Derived.Test.YtmnohaefklglfaaDoorUn26
import Derived.Test.YtmnohaefklglfaaDoorUn27
import Derived.Test.YtmnohaefklglfaaDoorUn28
import Derived.Test.YtmnohaefklglfaaDoorUn29
import Derived.Test.YtmnohaefklglfaaDoorUn30
import Derived.Test.YtmnohaefklglfaaDoorUn31
import Derived.Test.YtmnohaefklglfaaDoorUn32
import Derived.Test.YtmnohaefklglfaaDoorUn33
namespace Go.Proofs.YtmnohaefklglfaaDoor
open Go.RowKit
set_option linter.unusedVariables false
set_option linter.unusedSimpArgs false
set_option maxRecDepth 100000

theorem lineref_any (Q : Nat → Prop) (w : World) (v : Value) (u : UD) (s : ByteArray) (hQ : ∀ g, w.heap.size ≤ g → Q g) (h : UnitQ Q w v u) (h8 : ∀ l ∈ u.ls, l.length ≤ 8) (hs : s.size ≤ 1000) :
    Calls Tryd.prog 18 #[v, .string s] w fun e w' => (∃ v', e = .returned (.tuple #[v', .int .i64 (lineU u s.data.toList).2]) ∧ UnitQ Q w' v' (lineU u s.data.toList).1) ∧ Below w.heap.size w w' := by
  unfold lineU
  by_cases h1 : (cutL s.data.toList).1 = wUnit
  · rw [if_pos h1]; exact line_unit Q w v u s hQ h h8 hs h1
  rw [if_neg h1]
  by_cases h2 : (cutL s.data.toList).1 = wRetry
  · rw [if_pos h2]; exact line_retry Q w v u s hQ h h8 hs h2
  rw [if_neg h2]
  unfold pickU
  cases h3 : wordAt (cutL s.data.toList).1 with
  | none => exact line_none Q w v u s hQ h h8 hs ⟨h1, h2, h3⟩
  | some k =>
    obtain ⟨hk, hx⟩ := findW_lt h3
    match k, hk, hx with
    | 0, _, hx => exact line_file Q w v u s hQ h h8 hs (Option.some.inj hx).symm
    | 1, _, hx => exact line_list1 Q w v u s hQ h h8 hs (Option.some.inj hx).symm
    | 2, _, hx => exact line_list2 Q w v u s hQ h h8 hs (Option.some.inj hx).symm
    | 3, _, hx => exact line_list3 Q w v u s hQ h h8 hs (Option.some.inj hx).symm
    | 4, _, hx => exact line_list4 Q w v u s hQ h h8 hs (Option.some.inj hx).symm
    | 5, _, hx => exact line_list5 Q w v u s hQ h h8 hs (Option.some.inj hx).symm
end Go.Proofs.YtmnohaefklglfaaDoor
