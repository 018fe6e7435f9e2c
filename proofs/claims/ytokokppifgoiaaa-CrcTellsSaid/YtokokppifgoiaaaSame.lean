/- The document's own answer for the sum is the program's, of whatever bytes. -/
import Derived.Test.YtokokppifgoiaaaDiv
namespace Go.Proofs.Ytokokppifgoiaaa
set_option linter.unusedVariables false
set_option linter.unusedSimpArgs false
open Go.RowKit

theorem poly_bit : ∀ i, i < 32 → at0 poly (i + 1) = b2i ((3988292384#32).getLsbD i) := by decide +kernel
theorem b2i_add (a b : Bool) : (b2i a + b2i b).tmod 2 = b2i (a ^^ b) := by cases a <;> cases b <;> rfl
theorem b2i_one (a : Bool) : b2i a = 1 ↔ a = true := by cases a <;> simp [b2i]
theorem b2i_i2b (x : Int) (h : x = 0 ∨ x = 1) : b2i (i2b x) = x := by rcases h with rfl | rfl <;> rfl
theorem ones_bit (i : Nat) (hi : i < 32) : ones.getLsbD i = true := by unfold ones; rw [BitVec.getLsbD_allOnes]; exact decide_eq_true hi

structure Inv (M D : List Int) (s : BitVec 32) (k : Nat) : Prop where
  len : D.length = M.length
  low : ∀ i, i < 32 → at0 D (k + i) = b2i (s.getLsbD i ^^ i2b (at0 M (k + i)))
  high : ∀ i, k + 32 ≤ i → at0 D i = at0 M i

theorem Inv.start (M : List Int) (hM : Bits M) (hl : 32 ≤ M.length) : Inv M (flipTo M 32) ones 0 where
  len := flipTo_length _ _
  low := fun i hi => by
    rw [Nat.zero_add, at0_flipTo _ _ _ hl, if_pos hi, ones_bit i hi]
    rcases hM i with h | h <;> rw [h] <;> rfl
  high := fun i hi => by rw [at0_flipTo _ _ _ hl, if_neg (by omega)]

theorem Inv.next {M D : List Int} {s : BitVec 32} {k : Nat} (h : Inv M D s k) (hM : Bits M) (hk : k + 33 ≤ M.length) :
    Inv M (if at0 D k = 1 then addTo D k 33 else D) (sb s (at0 M k)) (k + 1) := by
  have h0 : at0 D k = b2i (s.getLsbD 0 ^^ i2b (at0 M k)) := by have := h.low 0 (by decide); simpa using this
  have hw : ∀ i, i < 32 → at0 D (k + (i + 1)) = b2i (s.getLsbD (i + 1) ^^ i2b (at0 M (k + (i + 1)))) := by
    intro i hi
    by_cases h31 : i + 1 < 32
    · exact h.low (i + 1) h31
    · rw [h.high _ (by omega), BitVec.getLsbD_of_ge _ _ (by omega), Bool.false_xor, b2i_i2b _ (hM _)]
  have hlen := h.len
  cases ht : (s.getLsbD 0 ^^ i2b (at0 M k))
  · rw [if_neg (by rw [h0, ht]; decide)]
    refine ⟨hlen, fun i hi => ?_, fun i hi => h.high i (by omega)⟩
    have e := hw i hi
    rw [sb_bit _ _ _ hi, ht, Bool.false_and, Bool.xor_false]
    rw [show k + 1 + i = k + (i + 1) from by omega]
    exact e
  · rw [if_pos (by rw [h0, ht]; decide)]
    refine ⟨by rw [addTo_length, hlen], fun i hi => ?_, fun i hi => ?_⟩
    · rw [sb_bit _ _ _ hi, ht, Bool.true_and]
      rw [show k + 1 + i = k + (i + 1) from by omega]
      rw [at0_addTo _ _ _ _ (by omega), if_pos ⟨by omega, by omega⟩, hw i hi, show k + (i + 1) - k = i + 1 from by omega, poly_bit i hi, b2i_add]
      congr 1
      exact xor_swap _ _ _
    · rw [at0_addTo _ _ _ _ (by omega), if_neg (by omega)]
      exact h.high i (by omega)

theorem ser_take (s : BitVec 32) (M : List Int) (k : Nat) (h : k < M.length) : ser s (M.take (k + 1)) = sb (ser s (M.take k)) (at0 M k) := by
  rw [List.take_add_one, List.getElem?_eq_getElem h]
  unfold ser
  rw [List.foldl_append]
  show sb _ _ = sb _ _
  unfold at0
  rw [List.getD_eq_getElem?_getD, List.getElem?_eq_getElem h]
  rfl

theorem Inv.all (M : List Int) (hM : Bits M) (n : Nat) (hl : M.length = n + 32) (k : Nat) (hk : k ≤ n) : Inv M (divTo (flipTo M 32) k) (ser ones (M.take k)) k := by
  induction k with
  | zero => exact Inv.start M hM (by omega)
  | succ k ih =>
    rw [ser_take _ _ _ (by omega), divTo]
    exact (ih (by omega)).next hM (by omega)

theorem out_bit (D : List Int) (n : Nat) (s : BitVec 32) (h : ∀ i, i < 32 → at0 D (n + i) = b2i (s.getLsbD i)) (j : Nat) (hj : j ≤ 32) :
    ∀ i, (outTo D n j).getLsbD i = (decide (i < j) && !s.getLsbD i) := by
  induction j with
  | zero => intro i; simp [outTo]
  | succ j ih =>
    have ih := ih (by omega)
    intro i
    have e : (BitVec.ofInt 32 (1 - at0 D (n + j)) <<< j) = if s.getLsbD j then 0#32 else 1#32 <<< j := by
      rw [h j (by omega)]
      cases s.getLsbD j
      · rfl
      · exact BitVec.zero_shiftLeft _
    have hz : outTo D n j &&& (if s.getLsbD j then 0#32 else 1#32 <<< j) = 0#32 := by
      apply BitVec.eq_of_getLsbD_eq
      intro q hq
      rw [BitVec.getLsbD_and, ih q]
      cases s.getLsbD j
      · rw [if_neg (by decide), BitVec.getLsbD_shiftLeft]
        by_cases hqj : q < j
        · simp [hqj]
        · simp [hqj]
      · simp
    rw [outTo, e, BitVec.add_eq_or_of_and_eq_zero _ _ hz, BitVec.getLsbD_or, ih i]
    by_cases hij : i = j
    · subst hij
      cases s.getLsbD i
      · rw [if_neg (by decide), BitVec.getLsbD_shiftLeft]; simp; omega
      · simp
    · have hx : (if s.getLsbD j then 0#32 else 1#32 <<< j : BitVec 32).getLsbD i = false := by
        cases s.getLsbD j
        · rw [if_neg (by decide), BitVec.getLsbD_shiftLeft]
          by_cases h1 : i < j
          · simp [h1]
          · have : i - j ≠ 0 := by omega
            simp [this]
        · simp
      rw [hx, Bool.or_false]
      by_cases h1 : i < j
      · rw [decide_eq_true h1, decide_eq_true (by omega : i < j + 1)]
      · rw [decide_eq_false h1, decide_eq_false (by omega : ¬ i < j + 1)]

theorem ref_crc (zs : List Int) (hz : ∀ x ∈ zs, 0 ≤ x ∧ x < 256) : refSum zs = crc zs := by
  have hl : (allBits zs ++ List.replicate 32 0).length = 8 * zs.length + 32 := by rw [List.length_append, allBits_length, List.length_replicate]
  have h := Inv.all _ (Bits.all zs hz) (8 * zs.length) hl (8 * zs.length) (Nat.le_refl _)
  have e : (allBits zs ++ List.replicate 32 (0 : Int)).take (8 * zs.length) = allBits zs := by
    rw [← allBits_length zs, List.take_left']
    rfl
  rw [e] at h
  have hlow : ∀ i, i < 32 → at0 (divTo (flipTo (allBits zs ++ List.replicate 32 0) 32) (8 * zs.length)) (8 * zs.length + i) = b2i ((ser ones (allBits zs)).getLsbD i) := by
    intro i hi
    rw [h.low i hi]
    have : at0 (allBits zs ++ List.replicate 32 0) (8 * zs.length + i) = 0 := by
      rw [at0_app, allBits_length, if_neg (by omega)]
      unfold at0
      rw [List.getD_eq_getElem?_getD, List.getElem?_replicate]
      split <;> rfl
    rw [this]
    have : i2b 0 = false := rfl
    rw [this, Bool.xor_false]
  unfold refSum crc
  rw [rest_ser _ _ hz]
  apply BitVec.eq_of_getLsbD_eq
  intro i hi
  rw [out_bit _ _ _ hlow 32 (Nat.le_refl _), BitVec.getLsbD_not]
end Go.Proofs.Ytokokppifgoiaaa
