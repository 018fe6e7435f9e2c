/- Lists of lists of records, and numbers, that came in as arguments. -/
import Derived.Test.YtjamolajobemaaaLOpenArg
import Derived.Test.YtjamolajobemaaaLAnews
namespace Go.Proofs.Ytjamolajobemaaa
open Go.RowKit Go.WideShapes Go.ChangeShapes
set_option linter.unusedVariables false
set_option linter.unusedSimpArgs false

theorem cellsVV : Try.prog.cellsOf 35 = 1 := by kernel_rfl
theorem open_times {H : Type} {enc : TypeId × Value → H} {w : World} {base fuel : Nat} {spare : Nat → Bool} {held : Bool} {a0 : Option Addr} {len0 cap0 : Nat} {x : DataW H × List MemPlace} (hf : DataW.trod enc Try.prog w base spare held fuel 47 [.slice a0 len0 cap0] = some x) (hs : ∀ b, spare b = true) :
    ∃ TS : List (Option Addr × Nat × List (Value × List Int)), TS.length = len0 ∧ Times w a0 TS ∧ len0 ≤ maxLen := by
  rcases Go.Deep.open_slice1 Try.underlying47 cellsVV hf with ⟨h1, _⟩ | ⟨ad, len, cp, m, n, V, D, Pl, h1, hb, hl, hm, hmm, _, hx⟩
  · injection h1 with h1 _
    injection h1 with e1 e2 e3
    subst e1 e2 e3
    exact ⟨[], rfl, fun i hi => by simp at hi, Nat.zero_le _⟩
  · injection h1 with h1 _
    injection h1 with e1 e2 e3
    subst e1 e2 e3
    have hlm : len0 ≤ m := by rw [hmm]; split <;> omega
    have hz : ∀ i, ∃ T : Option Addr × Nat × List (Value × List Int), i < len0 → V i = .slice T.1 T.2.2.length T.2.1 ∧ Parts w T.1 T.2.2 ∧ T.2.2.length ≤ maxLen := fun i => by
      by_cases hi : i < len0
      · have ht := (hx i (by omega)).2
        have hform : ∃ a l c, V i = .slice a l c := by
          rcases Go.Deep.open_slice1 Try.underlying35 cellsV ht with ⟨h1, _⟩ | ⟨ad, len, cp, m, n, V', D, Pl, h1, _⟩
          · injection h1 with h1 _
            exact ⟨_, _, _, h1⟩
          · injection h1 with h1 _
            exact ⟨_, _, _, h1⟩
        obtain ⟨a1, l1, c1, hv⟩ := hform
        rw [hv] at ht
        obtain ⟨PS, rfl, hP, hl⟩ := open_recs ht hs
        exact ⟨(a1, c1, PS), fun _ => ⟨hv, hP, hl⟩⟩
      · exact ⟨(none, 0, []), fun h => absurd h hi⟩
    refine ⟨(List.range len0).map fun i => Classical.choose (hz i), by simp, fun i hi => ?_, by omega⟩
    have hi' : i < len0 := by simpa using hi
    obtain ⟨b, off, spot⟩ := ad
    have hspot : spot = none := by
      have := World.cell?_spot (hx 0 (by omega)).1
      simpa [Addr.add] using this
    have hc := (hx i (by omega)).1
    subst hspot
    have hsp := Classical.choose_spec (hz i) hi'
    simp only [List.getElem_map, List.getElem_range]
    refine ⟨b, off, rfl, ?_, hsp.2.1, hsp.2.2⟩
    rw [Addr.add_mid] at hc
    rw [hc, ← hsp.1]
theorem open_nums {H : Type} {enc : TypeId × Value → H} {w : World} {base fuel : Nat} {spare : Nat → Bool} {held : Bool} {a0 : Option Addr} {len0 cap0 : Nat} {x : DataW H × List MemPlace} (hf : DataW.trod enc Try.prog w base spare held fuel 48 [.slice a0 len0 cap0] = some x) (hs : ∀ b, spare b = true) :
    ∃ zs : List Int, zs.length = len0 ∧ Ints w a0 zs ∧ len0 ≤ maxLen := by
  rcases open_ints Try.underlying48 Try.underlying3 (by kernel_rfl) hf with ⟨h1, _⟩ | ⟨ad, l, c, zs, h1, hb, hl, hm, hz, _, hcell, _⟩
  · injection h1 with h1 _
    injection h1 with e1 e2 e3
    subst e1 e2 e3
    exact ⟨[], rfl, fun i hi => by simp at hi, Nat.zero_le _⟩
  · injection h1 with h1 _
    injection h1 with e1 e2 e3
    subst e1 e2 e3
    have hlz : len0 ≤ zs.length := by rw [hz]; split <;> omega
    refine ⟨zs.take len0, by rw [List.length_take]; omega, fun i hi => ?_, by omega⟩
    have hi' : i < len0 := by rw [List.length_take] at hi; omega
    obtain ⟨b, off, spot⟩ := ad
    have hspot : spot = none := by
      have := World.cell?_spot (hcell 0 (by omega))
      simpa [Addr.add] using this
    have hc := hcell i (by omega)
    subst hspot
    refine ⟨b, off, rfl, ?_⟩
    rw [Addr.add_mid] at hc
    rw [hc, List.getElem_take, List.getD_eq_getElem?_getD, List.getElem?_eq_getElem (by omega)]
    rfl
end Go.Proofs.Ytjamolajobemaaa
