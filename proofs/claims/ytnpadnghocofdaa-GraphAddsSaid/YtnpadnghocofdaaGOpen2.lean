/- Units that are handed in: nil, or somewhere. -/
import Derived.Test.YtnpadnghocofdaaGOpen
namespace Go.Proofs.Ytnpadnghocofdaa
open Go.RowKit
set_option linter.unusedVariables false
set_option linter.unusedSimpArgs false
set_option maxRecDepth 100000

theorem open_units2 {H : Type} {enc : TypeId × Value → H} {w : World} {base fuel : Nat} {held : Bool} {v : Value} {x : DataW H × List MemPlace} (hf : DataW.trod enc Try.prog w base (fun _ => true) held fuel 22 [v] = some x) :
    ∃ us, UArg w v us ∧ us.length ≤ maxLen ∧ (v = .slice none 0 0 ∨ ∃ a n c, v = .slice (some a) n c) := by
  obtain ⟨us, h1, h2⟩ := open_units hf
  refine ⟨us, h1, h2, ?_⟩
  rcases Go.Deep.open_slice Try.underlying22 hf with ⟨h1, _⟩ | ⟨ad, len, cp, m, q, D, Pl, h1, hb, hl, hm, hmm, _, hx⟩
  · injection h1 with h1 _
    exact .inl h1
  · injection h1 with h1 _
    exact .inr ⟨_, _, _, h1⟩
end Go.Proofs.Ytnpadnghocofdaa
