/- UnitTells: what it asks of a unit, as plain data. -/
import Derived.Test.YtmnohaefklglfaaDoorUn19
import Derived.Test.YtmnohaefklglfaaDoorUn17
namespace Go.Proofs.YtmnohaefklglfaaDoor
open Go.RowKit
set_option linter.unusedVariables false
set_option linter.unusedSimpArgs false
set_option maxRecDepth 100000

def inT (k : Nat) (l : List (List UInt8)) : Nat → Bool → Bool
  | 0, b => b
  | j + 1, b => inT k l j b && (rightU k (l.getD j []) && !decide (l.getD j [] ∈ l.take j))
def outT (ls : List (List (List UInt8))) (b : Bool) : Nat → Bool
  | 0 => b
  | k + 1 => inT k (ls.getD k []) (ls.getD k []).length (outT ls b k && decide ((ls.getD k []).length ≤ 8))
theorem inT_succ {k : Nat} {l : List (List UInt8)} {j : Nat} {b : Bool} (h : j < l.length) : inT k l (j + 1) b = (inT k l j b && (rightU k l[j] && !decide (l[j] ∈ l.take j))) := by
  show (inT k l j b && (rightU k (l.getD j []) && !decide (l.getD j [] ∈ l.take j))) = _
  rw [List.getD_eq_getElem?_getD, List.getElem?_eq_getElem h, Option.getD_some]
theorem inT_iff (k : Nat) (l : List (List UInt8)) (b : Bool) : ∀ j, j ≤ l.length → (inT k l j b = true ↔ b = true ∧ (∀ x ∈ l.take j, rightU k x = true) ∧ (l.take j).Nodup) := by
  intro j
  induction j with
  | zero => intro _; simp [inT]
  | succ j ih =>
    intro h
    have hj : j < l.length := h
    rw [inT_succ hj, Bool.and_eq_true, ih (by omega), Bool.and_eq_true, Bool.not_eq_true', decide_eq_false_iff_not, List.take_succ_eq_append_getElem hj]
    constructor
    · rintro ⟨⟨h1, h2, h3⟩, h4, h5⟩
      refine ⟨h1, fun x hx => ?_, nodup_snoc h3 h5⟩
      rcases List.mem_append.1 hx with hx | hx
      · exact h2 x hx
      · rw [List.mem_singleton.1 hx]; exact h4
    · rintro ⟨h1, h2, h3⟩
      have h4 := List.nodup_append.1 h3
      exact ⟨⟨h1, fun x hx => h2 x (List.mem_append_left _ hx), h4.1⟩, h2 _ (List.mem_append_right _ (List.mem_singleton.2 rfl)), fun hm => h4.2.2 _ hm _ (List.mem_singleton.2 rfl) rfl⟩
theorem outT_iff (ls : List (List (List UInt8))) (b : Bool) : ∀ n, (outT ls b n = true ↔ b = true ∧ ∀ k, k < n → (∀ x ∈ ls.getD k [], rightU k x = true) ∧ (ls.getD k []).Nodup ∧ (ls.getD k []).length ≤ 8) := by
  intro n
  induction n with
  | zero => simp [outT]
  | succ n ih =>
    show inT n (ls.getD n []) (ls.getD n []).length (outT ls b n && decide ((ls.getD n []).length ≤ 8)) = true ↔ _
    rw [inT_iff n _ _ _ (Nat.le_refl _), Bool.and_eq_true, ih, decide_eq_true_iff, List.take_length]
    constructor
    · rintro ⟨⟨⟨h1, h2⟩, h3⟩, h4, h5⟩
      refine ⟨h1, fun k hk => ?_⟩
      by_cases hkn : k < n
      · exact h2 k hkn
      · obtain rfl : k = n := by omega
        exact ⟨h4, h5, h3⟩
    · rintro ⟨h1, h2⟩
      obtain ⟨a, b, c⟩ := h2 n (by omega)
      exact ⟨⟨⟨h1, fun k hk => h2 k (by omega)⟩, c⟩, a, b⟩
def frontT (name : List UInt8) (l0 : List (List UInt8)) (r : Int) : Bool := nameL name && decide (0 ≤ r) && decide (r ≤ 3) && decide (0 < l0.length)
theorem good_iff (name : List UInt8) (l0 l1 l2 l3 l4 l5 : List (List UInt8)) (r : Int) : outT [l0, l1, l2, l3, l4, l5] (frontT name l0 r) 6 = true ↔ GoodU name [l0, l1, l2, l3, l4, l5] r := by
  rw [outT_iff]
  unfold frontT
  simp only [Bool.and_eq_true, decide_eq_true_eq]
  constructor
  · rintro ⟨⟨⟨⟨h1, h2⟩, h3⟩, h4⟩, h5⟩
    exact ⟨h1, h2, h3, by show l0 ≠ []; intro e; subst e; simp at h4, h5⟩
  · rintro ⟨h1, h2, h3, h4, h5⟩
    exact ⟨⟨⟨⟨h1, h2⟩, h3⟩, List.length_pos_iff.2 h4⟩, h5⟩
theorem rightU_zero (x : List UInt8) : rightU 0 x = (okP x && decide (0 < (namesL x).length)) := by
  unfold rightU
  rw [if_pos rfl, Bool.eq_iff_iff, Bool.and_eq_true, decide_eq_true_iff, decide_eq_true_iff, List.length_pos_iff]
  constructor
  · intro h
    refine ⟨?_, h⟩
    unfold namesL at h
    split at h
    · exact absurd rfl h
    · split at h
      · assumption
      · exact absurd rfl h
  · exact fun h => h.2
theorem rightU_other {k : Nat} (h : k ≠ 0) (x : List UInt8) : rightU k x = nameL x := by
  unfold rightU
  rw [if_neg h]
theorem textT_len {name : List UInt8} {ls : List (List (List UInt8))} {dg : List UInt8} (h1 : name.length ≤ 1000) (h2 : ∀ l ∈ ls, l.length ≤ 12 ∧ ∀ y ∈ l, y.length ≤ 1000) (h3 : dg.length ≤ 1000) : (textT name ls dg).length ≤ 100000 := by
  have h4 := bodyT_len wordsU ls (by decide) h2
  have h5 : wordsU.length = 6 := rfl
  have h6 : (lineT wUnit name).length = 4 + name.length + 2 := by simp [lineT, wUnit]; omega
  have h7 : (lineT wRetry dg).length = 5 + dg.length + 2 := by simp [lineT, wRetry]; omega
  unfold textT
  rw [List.length_append, List.length_append, h6, h7]
  omega
theorem refname_l (x : List UInt8) (w : World) (hx : x.length ≤ maxLen) : Calls Tryd.prog 12 #[.string (toB x)] w fun e w' => e = .returned (.bool (nameL x)) ∧ w = w' :=
  refname_any (toB x) w (by rw [toB_size]; exact hx)
theorem refsplit_l (x : List UInt8) (w : World) (hx : x.length ≤ maxLen) : Calls Tryd.prog 13 #[.string (toB x)] w (SplitPost w x) :=
  refsplit_any (toB x) w (by rw [toB_size]; exact hx)
theorem two_cells {w : World} {b1 b2 : Nat} {v10 v11 v12 v13 v14 v15 v16 v17 : Value} {v20 v21 v22 v23 v24 v25 v26 v27 : Value} {T : TypeId}
    (h1 : w.heap[b1]? = some (.cells #[v10, v11, v12, v13, v14, v15, v16, v17] T)) (h2 : w.heap[b2]? = some (.cells #[v20, v21, v22, v23, v24, v25, v26, v27] T)) : w.cell? ⟨b1, 0, none⟩ = some v10 ∧ w.cell? ⟨b1, 1, none⟩ = some v11 ∧ w.cell? ⟨b1, 2, none⟩ = some v12 ∧ w.cell? ⟨b1, 3, none⟩ = some v13 ∧ w.cell? ⟨b1, 4, none⟩ = some v14 ∧ w.cell? ⟨b1, 5, none⟩ = some v15 ∧ w.cell? ⟨b1, 6, none⟩ = some v16 ∧ w.cell? ⟨b1, 7, none⟩ = some v17 ∧ w.cell? ⟨b2, 0, none⟩ = some v20 ∧ w.cell? ⟨b2, 1, none⟩ = some v21 ∧ w.cell? ⟨b2, 2, none⟩ = some v22 ∧ w.cell? ⟨b2, 3, none⟩ = some v23 ∧ w.cell? ⟨b2, 4, none⟩ = some v24 ∧ w.cell? ⟨b2, 5, none⟩ = some v25 ∧ w.cell? ⟨b2, 6, none⟩ = some v26 ∧ w.cell? ⟨b2, 7, none⟩ = some v27 := by
  obtain ⟨p0, p1, p2, p3, p4, p5, p6, p7⟩ := box_cells h1
  obtain ⟨q0, q1, q2, q3, q4, q5, q6, q7⟩ := box_cells h2
  exact ⟨p0, p1, p2, p3, p4, p5, p6, p7, q0, q1, q2, q3, q4, q5, q6, q7⟩
theorem itoa_back (r : Int) (h1 : 0 ≤ r) (h2 : r ≤ 3) : digU r.toNat = Lib.itoa r := by
  have h3 : ((r.toNat : Nat) : Int) = r := by omega
  rw [← itoa_dig r.toNat (by omega), h3]
end Go.Proofs.YtmnohaefklglfaaDoor
