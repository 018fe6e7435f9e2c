/- Lists of records that came in as an argument. -/
import Derived.Test.YtpebpchnkhbcfaaLMem
import Derived.Deep.Slices
import Derived.Lib.SmallJoins
import Derived.WideShapes
import Derived.ProofKit
namespace Go.Proofs.Ytpebpchnkhbcfaa
open Go.RowKit Go.WideShapes Go.ChangeShapes
set_option linter.unusedVariables false
set_option linter.unusedSimpArgs false

theorem cellsV : Try.prog.cellsOf 30 = 1 := by kernel_rfl
theorem open_by {H : Type} {enc : TypeId × Value → H} {w : World} {base fuel : Nat} {spare : Nat → Bool} {held : Bool} {v : Value} {x : DataW H × List MemPlace} (hf : DataW.trod enc Try.prog w base spare held fuel 30 [v] = some x) (hs : ∀ b, spare b = true) : ∃ zs, By w v zs := by
  obtain rfl : spare = fun _ => true := funext hs
  rcases open_ints Try.underlying30 Try.underlying5 (by kernel_rfl) hf with ⟨hcs, _⟩ | ⟨xa, l, c, zs, hcs, _, hl, hm, hz, _, hcell, hwz⟩
  · injection hcs with hcs _
    exact ⟨[], by rw [hcs]; exact By.nil w⟩
  · injection hcs with hcs _
    have hz2 : zs.length = c := by simpa using hz
    exact ⟨zs.take l, by rw [hcs]; exact by_arg w _ _ _ zs hl hm hz2 hcell hwz⟩
theorem open_recs {H : Type} {enc : TypeId × Value → H} {w : World} {base fuel : Nat} {spare : Nat → Bool} {held : Bool} {a0 : Option Addr} {len0 cap0 : Nat} {x : DataW H × List MemPlace} (hf : DataW.trod enc Try.prog w base spare held fuel 35 [.slice a0 len0 cap0] = some x) (hs : ∀ b, spare b = true) :
    ∃ PS : List (Value × List Int), PS.length = len0 ∧ Parts w a0 PS ∧ len0 ≤ maxLen := by
  rcases Go.Deep.open_slice1 Try.underlying35 cellsV hf with ⟨h1, _⟩ | ⟨ad, len, cp, m, n, V, D, Pl, h1, hb, hl, hm, hmm, _, hx⟩
  · injection h1 with h1 _
    injection h1 with e1 e2 e3
    subst e1 e2 e3
    exact ⟨[], rfl, fun i hi => by simp at hi, Nat.zero_le _⟩
  · injection h1 with h1 _
    injection h1 with e1 e2 e3
    subst e1 e2 e3
    have hlm : len0 ≤ m := by rw [hmm]; split <;> omega
    have hz : ∀ i, ∃ zs, i < len0 → By w (V i) zs := fun i => by
      by_cases hi : i < len0
      · obtain ⟨zs, h⟩ := open_by (hx i (by omega)).2 hs
        exact ⟨zs, fun _ => h⟩
      · exact ⟨[], fun h => absurd h hi⟩
    refine ⟨(List.range len0).map fun i => (V i, Classical.choose (hz i)), by simp, fun i hi => ?_, by omega⟩
    have hi' : i < len0 := by simpa using hi
    obtain ⟨b, off, spot⟩ := ad
    have hspot : spot = none := by
      have := World.cell?_spot (hx 0 (by omega)).1
      simpa [Addr.add] using this
    have hc := (hx i (by omega)).1
    subst hspot
    refine ⟨b, off, rfl, ?_, ?_⟩
    · rw [Addr.add_mid] at hc
      rw [hc]
      simp
    · simp only [List.getElem_map, List.getElem_range]
      exact Classical.choose_spec (hz i) hi'
end Go.Proofs.Ytpebpchnkhbcfaa
