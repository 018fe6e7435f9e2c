/- Units, and texts, among the arguments. -/
import Derived.Test.YtnjabanjgckeoaaG18
import Derived.Test.YtnjabanjgckeoaaRows
import Derived.Deep.Slices
import Derived.Deep.Strs
import Derived.Lib.SmallJoins
import Derived.WideShapes
import Derived.ProofKit
import Derived.OpenShut
import Derived.MakeChecks
namespace Go.Proofs.Ytnjabanjgckeoaa
open Go.RowKit Go.WideShapes Go.ChangeShapes Go.ChangeAt
set_option linter.unusedVariables false
set_option linter.unusedSimpArgs false
set_option maxRecDepth 100000

theorem choose_listG {β : Type} {P : Nat → β → Prop} : ∀ (n : Nat), (∀ i < n, ∃ y, P i y) → ∃ l : List β, l.length = n ∧ ∀ i (hi : i < l.length), P i l[i] := by
  intro n
  induction n with
  | zero => intro _; exact ⟨[], rfl, fun i hi => absurd hi (by simp)⟩
  | succ n ih =>
    intro h
    obtain ⟨l, h1, h2⟩ := ih fun i hi => h i (by omega)
    obtain ⟨y, hy⟩ := h n (Nat.lt_succ_self n)
    refine ⟨l ++ [y], by simp [h1], fun i hi => ?_⟩
    by_cases hin : i < l.length
    · rw [List.getElem_append_left hin]; exact h2 i hin
    · have : i = l.length := by simp at hi; omega
      subst this
      simp only [List.getElem_append_right (Nat.le_refl _), Nat.sub_self, List.getElem_cons_zero]
      rw [h1]; exact hy
section
variable {H : Type} {enc : TypeId × Value → H} {P : Program} {w : World} {base : Nat} {spare : Nat → Bool} {held : Bool}
theorem trod_struct8G {t : TypeId} {f0 f1 f2 f3 f4 f5 f6 f7 : Field} {fuel : Nat} {cs : List Value} {x : DataW H × List MemPlace} (ht : P.underlying t = some (.struct #[f0, f1, f2, f3, f4, f5, f6, f7])) (h : DataW.trod enc P w base spare held fuel t cs = some x) :
    ∃ y0 y1 y2 y3 y4 y5 y6 y7 n, DataW.trod enc P w base spare held n f0.type ((cs.drop f0.offset).take (P.cellsOf f0.type)) = some y0 ∧
      DataW.trod enc P w base spare held n f1.type ((cs.drop f1.offset).take (P.cellsOf f1.type)) = some y1 ∧ DataW.trod enc P w base spare held n f2.type ((cs.drop f2.offset).take (P.cellsOf f2.type)) = some y2 ∧
      DataW.trod enc P w base spare held n f3.type ((cs.drop f3.offset).take (P.cellsOf f3.type)) = some y3 ∧ DataW.trod enc P w base spare held n f4.type ((cs.drop f4.offset).take (P.cellsOf f4.type)) = some y4 ∧
      DataW.trod enc P w base spare held n f5.type ((cs.drop f5.offset).take (P.cellsOf f5.type)) = some y5 ∧ DataW.trod enc P w base spare held n f6.type ((cs.drop f6.offset).take (P.cellsOf f6.type)) = some y6 ∧
      DataW.trod enc P w base spare held n f7.type ((cs.drop f7.offset).take (P.cellsOf f7.type)) = some y7 := by
  obtain ⟨xs, n, _, rfl, hl, hlen, hf⟩ := DataW.trod_struct ht h
  match xs, hlen with
  | [y0, y1, y2, y3, y4, y5, y6, y7], _ => exact ⟨y0, y1, y2, y3, y4, y5, y6, y7, n, by simpa using hf 0 f0 rfl, by simpa using hf 1 f1 rfl, by simpa using hf 2 f2 rfl, by simpa using hf 3 f3 rfl, by simpa using hf 4 f4 rfl, by simpa using hf 5 f5 rfl, by simpa using hf 6 f6 rfl, by simpa using hf 7 f7 rfl⟩
end
theorem cellsG_str : Try.prog.cellsOf 9 = 1 := by kernel_rfl
theorem cellsG_int : Try.prog.cellsOf 3 = 1 := by kernel_rfl
theorem cellsG_strs : Try.prog.cellsOf 23 = 1 := by kernel_rfl
theorem cellsG_unit : Try.prog.cellsOf 44 = 8 := by kernel_rfl
theorem spot_zeroG {ad : Addr} {w : World} {v : Value} (h : w.cell? (ad.add 0) = some v) : ad.spot = none := by
  have := World.cell?_spot h
  unfold Addr.add at this
  rwa [if_pos rfl] at this
theorem spot_cellsG {w : World} {base n : Nat} {ad : Addr} {cs : List Value} (h : w.cells? base (ad.add (0 * n)) n = some cs) (hn : 0 < n) : ad.spot = none := by
  obtain ⟨_, h2, h3⟩ := World.cells?_some h
  have h0 := h3 0 hn
  rw [List.getElem?_eq_getElem (by omega), Nat.zero_mul] at h0
  have e : (ad.add 0) = ad := by unfold Addr.add; rw [if_pos rfl]
  rw [e] at h0
  exact spot_zeroG h0
theorem cells_atG {w : World} {base k n : Nat} {ad : Addr} {cs : List Value} (h : w.cells? base (ad.add k) n = some cs) (hs : ad.spot = none) : ∃ b off, ad = ⟨b, off, none⟩ ∧ w.rangeAt b (off + k) cs ∧ cs.length = n := by
  obtain ⟨_, h2, h3⟩ := World.cells?_some h
  obtain ⟨b, off, spot⟩ := ad
  have hs : spot = none := hs
  subst hs
  refine ⟨b, off, rfl, fun j v hj => ?_, h2⟩
  have hjl : j < n := by
    rw [← h2]
    exact (List.getElem?_eq_some_iff.1 hj).1
  have := h3 j hjl
  rw [Addr.add_mid, Addr.add_mid] at this
  rw [this]; exact hj
theorem spot_ofG {w : World} {a : Addr} {v : Value} (h : w.cell? a = some v) : a.spot = none := by
  unfold World.cell? at h
  split at h
  · split at h
    · cases h
    · rename_i h1; simpa using h1
  · cases h
theorem open_stsG {H : Type} {enc : TypeId × Value → H} {w : World} {base fuel : Nat} {held : Bool} {v : Value} {x : DataW H × List MemPlace} (hf : DataW.trod enc Try.prog w base (fun _ => true) held fuel 23 [v] = some x) :
    ∃ ls, Sts w v ls ∧ (v = .slice none 0 0 ∨ ∃ a n c, v = .slice (some a) n c) ∧ ∀ y ∈ ls, y.length ≤ maxLen := by
  rcases Go.Deep.open_slice1 Try.underlying23 cellsG_str hf with ⟨h1, _⟩ | ⟨ad, len, cp, m, q, V, D, Pl, h1, hb, hl, hm, hmm, _, hx⟩
  · injection h1 with h1 _
    subst h1
    exact ⟨[], ⟨none, 0, rfl, Nat.le_refl _, Nat.zero_le _, fun h => absurd h (by simp)⟩, .inl rfl, fun y hy => by cases hy⟩
  · injection h1 with h1 _
    subst h1
    have each : ∀ i < len, ∃ y : List UInt8, w.cell? (ad.add i) = some (.string (toB y)) ∧ y.length ≤ maxLen := fun i hi => by
      obtain ⟨hc, ht⟩ := hx i (by rw [hmm]; split <;> omega)
      obtain ⟨s1, e0, _, w0⟩ := DataW.trod_string Try.underlying9 ht
      injection e0 with e0 _
      rw [e0] at hc
      refine ⟨s1.data.toList, hc, ?_⟩
      have hz : s1.data.toList.length = s1.size := (Lib.size_eq s1).symm
      rw [hz]
      exact w0
    obtain ⟨l, hl1, hl2⟩ := choose_listG len each
    refine ⟨l, ⟨some ad, cp, by rw [hl1], by omega, hm, fun h => ?_⟩, .inr ⟨_, _, _, rfl⟩, fun y hy => ?_⟩
    · have h0 := (hl2 0 h).1
      have hs := spot_ofG h0
      have hs : ad.spot = none := by
        have e : ad.add 0 = ad := by unfold Addr.add; rw [if_pos rfl]
        rwa [e] at hs
      obtain ⟨b, o, p⟩ := ad
      have hs : p = none := hs
      subst hs
      refine ⟨b, o, rfl, World.block_lt_of_cell? w _ h0, fun j hj => ?_⟩
      have := (hl2 j hj).1
      rw [Addr.add_mid] at this
      exact this
    · obtain ⟨i, hi, rfl⟩ := List.getElem_of_mem hy
      exact (hl2 i hi).2

theorem Units.of : ∀ {w : World} (l : List (UV × GU)), (∀ i (h : i < l.length), UVIs w l[i].1 l[i].2) → Units w (l.map (·.1)) (l.map (·.2)) := by
  intro w l
  induction l with
  | nil => intro _; exact .nil
  | cons p r ih =>
    intro h
    exact .cons (h 0 (by simp)) (ih fun i hi => h (i + 1) (by simpa using hi))
/-- Units that came in. -/
theorem open_units {H : Type} {enc : TypeId × Value → H} {w : World} {base fuel : Nat} {held : Bool} {v : Value} {x : DataW H × List MemPlace} (hf : DataW.trod enc Try.prog w base (fun _ => true) held fuel 22 [v] = some x) :
    ∃ us, UArg w v us ∧ us.length ≤ maxLen := by
  rcases Go.Deep.open_slice Try.underlying22 hf with ⟨h1, _⟩ | ⟨ad, len, cp, m, q, D, Pl, h1, hb, hl, hm, hmm, _, hx⟩
  · injection h1 with h1 _
    subst h1
    exact ⟨[], ⟨none, 0, [], rfl, .nil, fun i hi => absurd hi (by simp)⟩, Nat.zero_le _⟩
  · injection h1 with h1 _
    subst h1
    have hsp0 : 0 < len → ad.spot = none := fun h0 => by
      obtain ⟨cs, hc, _⟩ := hx 0 (by rw [hmm]; split <;> omega)
      rw [cellsG_unit] at hc
      exact spot_cellsG hc (by decide)
    have each : ∀ i < len, ∃ y : UV × GU, (∃ g off, ad = ⟨g, off, none⟩ ∧ w.rangeAt g (off + i * 8) y.1.cells) ∧ UVIs w y.1 y.2 ∧ y.1.nilOk := fun i hi => by
      obtain ⟨cs, hc, ht⟩ := hx i (by rw [hmm]; split <;> omega)
      rw [cellsG_unit] at hc
      obtain ⟨b, off, e, hr, hlen⟩ := cells_atG hc (hsp0 (by omega))
      obtain ⟨c0, c1, c2, c3, c4, c5, c6, c7, rfl⟩ : ∃ c0 c1 c2 c3 c4 c5 c6 c7, cs = [c0, c1, c2, c3, c4, c5, c6, c7] := by
        match cs, hlen with
        | [c0, c1, c2, c3, c4, c5, c6, c7], _ => exact ⟨c0, c1, c2, c3, c4, c5, c6, c7, rfl⟩
      obtain ⟨y0, y1, y2, y3, y4, y5, y6, y7, n', t0, t1, t2, t3, t4, t5, t6, t7⟩ := trod_struct8G Try.underlying44 ht
      simp only [cellsG_str, cellsG_int, cellsG_strs, List.drop_zero, List.drop_succ_cons, List.take_succ_cons, List.take_zero] at t0 t1 t2 t3 t4 t5 t6 t7
      obtain ⟨s, e0, _, w0⟩ := DataW.trod_string Try.underlying9 t0
      obtain ⟨k, e7, _, _⟩ := DataW.trod_int Try.underlying3 t7
      injection e0 with e0 _; injection e7 with e7 _
      subst e0 e7
      obtain ⟨l0, q0, z0, _⟩ := open_stsG t1
      obtain ⟨l1, q1, z1, _⟩ := open_stsG t2
      obtain ⟨l2, q2, z2, _⟩ := open_stsG t3
      obtain ⟨l3, q3, z3, _⟩ := open_stsG t4
      obtain ⟨l4, q4, z4, _⟩ := open_stsG t5
      obtain ⟨l5, q5, z5, _⟩ := open_stsG t6
      exact ⟨(⟨s.data.toList, c1, c2, c3, c4, c5, c6, k⟩, ⟨s.data.toList, l0, l1, l2, l3, l4, l5, k⟩), ⟨b, off, e, hr⟩, ⟨rfl, rfl, q0, q1, q2, q3, q4, q5⟩, fun v hv => by
        simp only [List.mem_cons, List.not_mem_nil, or_false] at hv
        rcases hv with rfl | rfl | rfl | rfl | rfl | rfl
        · exact z0
        · exact z1
        · exact z2
        · exact z3
        · exact z4
        · exact z5⟩
    obtain ⟨l, hl1, hl2⟩ := choose_listG len each
    refine ⟨l.map (·.2), ⟨some ad, cp, l.map (·.1), by rw [List.length_map, hl1], Units.of l fun i hi => (hl2 i hi).2.1, fun i hi => ?_⟩, by rw [List.length_map]; omega⟩
    have hi' : i < l.length := by simpa using hi
    obtain ⟨g, off, e, hr⟩ := (hl2 i hi').1
    exact ⟨⟨g, off, by rw [e], by rw [List.getElem_map]; exact hr⟩, by rw [List.getElem_map]; exact (hl2 i hi').2.2⟩
end Go.Proofs.Ytnjabanjgckeoaa
