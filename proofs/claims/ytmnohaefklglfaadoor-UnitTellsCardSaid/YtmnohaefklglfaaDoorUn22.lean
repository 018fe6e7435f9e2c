/- A unit among the arguments; the table that the row lists. -/
import Derived.Test.YtmnohaefklglfaaDoorUn21
import Derived.Test.YtmnohaefklglfaaDoorRows
import Derived.Deep.Slices
import Derived.Deep.Strs
import Derived.Lib.SmallJoins
import Derived.WideShapes
import Derived.ProofKit
import Derived.OpenShut
import Derived.MakeChecks
namespace Go.Proofs.YtmnohaefklglfaaDoor
open Go.RowKit Go.WideShapes Go.ChangeShapes Go.ChangeAt
set_option linter.unusedVariables false
set_option linter.unusedSimpArgs false
set_option maxRecDepth 100000

theorem choose_listU {β : Type} {P : Nat → β → Prop} : ∀ (n : Nat), (∀ i < n, ∃ y, P i y) → ∃ l : List β, l.length = n ∧ ∀ i (hi : i < l.length), P i l[i] := by
  intro n
  induction n with
  | zero => intro _; exact ⟨[], rfl, fun i hi => absurd hi (by simp)⟩
  | succ n ih =>
    intro h
    obtain ⟨l, h1, h2⟩ := ih fun i hi => h i (by omega)
    obtain ⟨y, hy⟩ := h n (Nat.lt_succ_self n)
    refine ⟨l ++ [y], by simp [h1], fun i hi => ?_⟩
    by_cases hin : i < l.length
    · rw [List.getElem_append_left hin]; exact h2 i hin
    · have : i = l.length := by simp at hi; omega
      subst this
      simp only [List.getElem_append_right (Nat.le_refl _), Nat.sub_self, List.getElem_cons_zero]
      rw [h1]; exact hy
section
variable {H : Type} {enc : TypeId × Value → H} {P : Program} {w : World} {base : Nat} {spare : Nat → Bool} {held : Bool}
theorem trod_struct8 {t : TypeId} {f0 f1 f2 f3 f4 f5 f6 f7 : Field} {fuel : Nat} {cs : List Value} {x : DataW H × List MemPlace} (ht : P.underlying t = some (.struct #[f0, f1, f2, f3, f4, f5, f6, f7])) (h : DataW.trod enc P w base spare held fuel t cs = some x) :
    ∃ y0 y1 y2 y3 y4 y5 y6 y7 n, DataW.trod enc P w base spare held n f0.type ((cs.drop f0.offset).take (P.cellsOf f0.type)) = some y0 ∧
      DataW.trod enc P w base spare held n f1.type ((cs.drop f1.offset).take (P.cellsOf f1.type)) = some y1 ∧ DataW.trod enc P w base spare held n f2.type ((cs.drop f2.offset).take (P.cellsOf f2.type)) = some y2 ∧
      DataW.trod enc P w base spare held n f3.type ((cs.drop f3.offset).take (P.cellsOf f3.type)) = some y3 ∧ DataW.trod enc P w base spare held n f4.type ((cs.drop f4.offset).take (P.cellsOf f4.type)) = some y4 ∧
      DataW.trod enc P w base spare held n f5.type ((cs.drop f5.offset).take (P.cellsOf f5.type)) = some y5 ∧ DataW.trod enc P w base spare held n f6.type ((cs.drop f6.offset).take (P.cellsOf f6.type)) = some y6 ∧
      DataW.trod enc P w base spare held n f7.type ((cs.drop f7.offset).take (P.cellsOf f7.type)) = some y7 := by
  obtain ⟨xs, n, _, rfl, hl, hlen, hf⟩ := DataW.trod_struct ht h
  match xs, hlen with
  | [y0, y1, y2, y3, y4, y5, y6, y7], _ => exact ⟨y0, y1, y2, y3, y4, y5, y6, y7, n, by simpa using hf 0 f0 rfl, by simpa using hf 1 f1 rfl, by simpa using hf 2 f2 rfl, by simpa using hf 3 f3 rfl, by simpa using hf 4 f4 rfl, by simpa using hf 5 f5 rfl, by simpa using hf 6 f6 rfl, by simpa using hf 7 f7 rfl⟩
end
theorem cellsU_str : Tryd.prog.cellsOf 9 = 1 := by kernel_rfl
theorem cellsU_int : Tryd.prog.cellsOf 3 = 1 := by kernel_rfl
theorem cellsU_strs : Tryd.prog.cellsOf 23 = 1 := by kernel_rfl
theorem cellsU_unit : Tryd.prog.cellsOf 25 = 8 := by kernel_rfl
theorem spot_ofU {w : World} {a : Addr} {v : Value} (h : w.cell? a = some v) : a.spot = none := by
  unfold World.cell? at h
  split at h
  · split at h
    · cases h
    · rename_i h1; simpa using h1
  · cases h
theorem open_stsU {H : Type} {enc : TypeId × Value → H} {w : World} {base fuel : Nat} {held : Bool} {v : Value} {x : DataW H × List MemPlace} (hf : DataW.trod enc Tryd.prog w base (fun _ => true) held fuel 23 [v] = some x) :
    ∃ ls, Sts w v ls ∧ ∀ y ∈ ls, y.length ≤ maxLen := by
  rcases Go.Deep.open_slice1 Tryd.underlying23 cellsU_str hf with ⟨h1, _⟩ | ⟨ad, len, cp, m, q, V, D, Pl, h1, hb, hl, hm, hmm, _, hx⟩
  · injection h1 with h1 _
    subst h1
    exact ⟨[], ⟨none, 0, rfl, Nat.le_refl _, Nat.zero_le _, fun h => absurd h (by simp)⟩, fun y hy => by cases hy⟩
  · injection h1 with h1 _
    subst h1
    have each : ∀ i < len, ∃ y : List UInt8, w.cell? (ad.add i) = some (.string (toB y)) ∧ y.length ≤ maxLen := fun i hi => by
      obtain ⟨hc, ht⟩ := hx i (by rw [hmm]; split <;> omega)
      obtain ⟨s1, e0, _, w0⟩ := DataW.trod_string Tryd.underlying9 ht
      injection e0 with e0 _
      rw [e0] at hc
      refine ⟨s1.data.toList, hc, ?_⟩
      have hz : s1.data.toList.length = s1.size := (Lib.size_eq s1).symm
      rw [hz]
      exact w0
    obtain ⟨l, hl1, hl2⟩ := choose_listU len each
    refine ⟨l, ⟨some ad, cp, by rw [hl1], by omega, hm, fun h => ?_⟩, fun y hy => ?_⟩
    · have h0 := (hl2 0 h).1
      have hs := spot_ofU h0
      have hs : ad.spot = none := by
        have e : ad.add 0 = ad := by unfold Addr.add; rw [if_pos rfl]
        rwa [e] at hs
      obtain ⟨b, o, p⟩ := ad
      have hs : p = none := hs
      subst hs
      refine ⟨b, o, rfl, World.block_lt_of_cell? w _ h0, fun j hj => ?_⟩
      have := (hl2 j hj).1
      rw [Addr.add_mid] at this
      exact this
    · obtain ⟨i, hi, rfl⟩ := List.getElem_of_mem hy
      exact (hl2 i hi).2
/-- A unit that came in by value. -/
theorem open_unit {H : Type} {enc : TypeId × Value → H} {W : World} {base b0 : Nat} {held : Bool} {r : Reach} {v : Value} {d : DataW H} {p : List MemPlace} (hv : Value.okWide Tryd.prog W r b0 25 v) (h : DataW.Trod enc Tryd.prog W base (fun _ => true) held 25 v d p) :
    ∃ (name : List UInt8) (ls : List (List (List UInt8))) (k : Int), UnitW W v name ls k ∧ name.length ≤ maxLen ∧ ∀ l ∈ ls, ∀ x ∈ l, x.length ≤ maxLen := by
  have hv' : ∃ cs, v = .agg cs ∧ cs.size = Tryd.prog.cellsOf 25 ∧ Row.okWide Tryd.prog W r b0 25 cs := by
    unfold Value.okWide at hv
    rw [Tryd.underlying25] at hv
    exact hv
  obtain ⟨cs, rfl, hs, _⟩ := hv'
  obtain ⟨fuel, hf⟩ := h
  rw [cellsU_unit] at hs
  obtain ⟨c0, c1, c2, c3, c4, c5, c6, c7, rfl⟩ : ∃ c0 c1 c2 c3 c4 c5 c6 c7, cs = #[c0, c1, c2, c3, c4, c5, c6, c7] := by
    obtain ⟨l⟩ := cs
    match l, hs with
    | [c0, c1, c2, c3, c4, c5, c6, c7], _ => exact ⟨c0, c1, c2, c3, c4, c5, c6, c7, rfl⟩
  have hf' : DataW.trod enc Tryd.prog W base (fun _ => true) held fuel 25 [c0, c1, c2, c3, c4, c5, c6, c7] = some (d, p) := hf
  obtain ⟨y0, y1, y2, y3, y4, y5, y6, y7, n', t0, t1, t2, t3, t4, t5, t6, t7⟩ := trod_struct8 Tryd.underlying25 hf'
  simp only [cellsU_str, cellsU_int, cellsU_strs, List.drop_zero, List.drop_succ_cons, List.take_succ_cons, List.take_zero] at t0 t1 t2 t3 t4 t5 t6 t7
  obtain ⟨s, e0, _, w0⟩ := DataW.trod_string Tryd.underlying9 t0
  obtain ⟨k, e7, _, _⟩ := DataW.trod_int Tryd.underlying3 t7
  injection e0 with e0 _; injection e7 with e7 _
  subst e0 e7
  obtain ⟨l0, q0, z0⟩ := open_stsU t1
  obtain ⟨l1, q1, z1⟩ := open_stsU t2
  obtain ⟨l2, q2, z2⟩ := open_stsU t3
  obtain ⟨l3, q3, z3⟩ := open_stsU t4
  obtain ⟨l4, q4, z4⟩ := open_stsU t5
  obtain ⟨l5, q5, z5⟩ := open_stsU t6
  refine ⟨s.data.toList, [l0, l1, l2, l3, l4, l5], k, ⟨c1, c2, c3, c4, c5, c6, l0, l1, l2, l3, l4, l5, rfl, rfl, ⟨q0, q1, q2, q3, q4, q5⟩⟩, ?_, fun l hl => ?_⟩
  · have hz : s.data.toList.length = s.size := (Lib.size_eq s).symm
    rw [hz]; exact w0
  · simp only [List.mem_cons, List.not_mem_nil, or_false] at hl
    rcases hl with rfl | rfl | rfl | rfl | rfl | rfl
    · exact z0
    · exact z1
    · exact z2
    · exact z3
    · exact z4
    · exact z5
theorem laid_tail {P : Program} {n : String} {d : DataW Unit} {r : List (String × DataW Unit)} {W : World} (h : laidMet P ((n, d) :: r) W) : laidMet P r W := by
  obtain ⟨ps, ⟨g, t, cs, fuel, p, q, h1, h2, h3, h4, h5, rfl⟩, hn, hall⟩ := h
  exact ⟨q, h5, (List.nodup_append.1 hn).2.1, fun b off hm => hall b off (List.mem_append_right _ hm)⟩
theorem htab_of {W : World} (h : laidMetH Tryd.prog Rows.unitTellsRow.laid W) : Lib.TabIs Tryd.prog W "internal/strconv.uint64pow10" .u64 Lib.pow10Tab := by
  rw [MakeChecks.laidMetH_plain _ _ _ (by kernel_rfl)] at h
  have h2 := laid_tail (laid_tail (show laidMet Tryd.prog [("math/bits.deBruijn32tab", Rows.laid_math_bits_deBruijn32tab), ("math/bits.deBruijn64tab", Rows.laid_math_bits_deBruijn64tab), ("internal/strconv.uint64pow10", Rows.laid_internal_strconv_uint64pow10), ("unicode/utf8.acceptRanges", Rows.laid_unicode_utf8_acceptRanges), ("unicode/utf8.first", Rows.laid_unicode_utf8_first)] W from h))
  have e : (Rows.laid_internal_strconv_uint64pow10 : DataW Unit) = Lib.tabData .u64 Lib.pow10Tab := by kernel_rfl
  rw [e] at h2
  exact Lib.tabIs_of_head (g := 3) (t := 101) (n := 20) (e := 85) (by kernel_rfl) (by kernel_rfl) (by kernel_rfl) (by kernel_rfl) (by kernel_rfl) (by kernel_rfl) h2
end Go.Proofs.YtmnohaefklglfaaDoor
