/- The document's own answer for the sum as plain functions on lists of noughts and ones, and that it is the program's sum. No condition but that bytes are bytes. -/
import Derived.Test.YtihnjhigemhknaaGreatDoorCMath
namespace Go.Proofs.YtihnjhigemhknaaGreatDoor.Cr
set_option linter.unusedVariables false
set_option linter.unusedSimpArgs false
open Go.RowKit

def bitAt (x : Int) (j : Nat) : Int := (x / 2 ^ j).tmod 2
def bitsTo (x : Int) (j : Nat) : List Int := (List.range j).map (bitAt x)
def allBits (zs : List Int) : List Int := zs.flatMap fun x => bitsTo x 8

theorem allBits_take (zs : List Int) (k : Nat) (h : k < zs.length) : allBits (zs.take (k + 1)) = allBits (zs.take k) ++ bitsTo zs[k] 8 := by
  unfold allBits
  rw [List.take_add_one, List.getElem?_eq_getElem h, List.flatMap_append]
  simp
theorem bitsTo_length (x : Int) (j : Nat) : (bitsTo x j).length = j := by simp [bitsTo]
theorem allBits_length : ∀ zs : List Int, (allBits zs).length = 8 * zs.length
  | [] => rfl
  | z :: zs => by
    have := allBits_length zs
    simp only [allBits, List.flatMap_cons, List.length_append, bitsTo_length, List.length_cons] at this ⊢
    omega
theorem bitsTo_succ (x : Int) (j : Nat) : bitsTo x (j + 1) = bitsTo x j ++ [bitAt x j] := by
  unfold bitsTo
  rw [List.range_succ, List.map_append]
  rfl

/-- The bit i of a list. -/
def at0 (L : List Int) (i : Nat) : Int := L.getD i 0
/-- The first i turned. -/
def flipTo (L : List Int) : Nat → List Int
  | 0 => L
  | i + 1 => (flipTo L i).set i (1 - at0 (flipTo L i) i)
def poly : List Int := [1, 0, 0, 0, 0, 0, 1, 0, 0, 1, 1, 0, 0, 0, 0, 0, 1, 0, 0, 0, 1, 1, 1, 0, 1, 1, 0, 1, 1, 0, 1, 1, 1]
/-- The polynomial's first j added from k on. -/
def addTo (L : List Int) (k : Nat) : Nat → List Int
  | 0 => L
  | j + 1 => (addTo L k j).set (k + j) ((at0 (addTo L k j) (k + j) + at0 poly j).tmod 2)
def divTo (L : List Int) : Nat → List Int
  | 0 => L
  | k + 1 => if at0 (divTo L k) k = 1 then addTo (divTo L k) k 33 else divTo L k
def outTo (L : List Int) (n : Nat) : Nat → BitVec 32
  | 0 => 0
  | j + 1 => outTo L n j + BitVec.ofInt 32 (1 - at0 L (n + j)) <<< j
def refSum (zs : List Int) : BitVec 32 := outTo (divTo (flipTo (allBits zs ++ List.replicate 32 0) 32) (8 * zs.length)) (8 * zs.length) 32

/-! ### Lengths; noughts and ones -/
theorem flipTo_length (L : List Int) (i : Nat) : (flipTo L i).length = L.length := by
  induction i with
  | zero => rfl
  | succ i ih => rw [flipTo, List.length_set, ih]
theorem addTo_length (L : List Int) (k j : Nat) : (addTo L k j).length = L.length := by
  induction j with
  | zero => rfl
  | succ j ih => rw [addTo, List.length_set, ih]
theorem divTo_length (L : List Int) (k : Nat) : (divTo L k).length = L.length := by
  induction k with
  | zero => rfl
  | succ k ih => rw [divTo]; split <;> simp [addTo_length, ih]
def Bits (L : List Int) : Prop := ∀ i, at0 L i = 0 ∨ at0 L i = 1
theorem at0_set (L : List Int) (i j : Nat) (x : Int) : at0 (L.set i x) j = if i = j ∧ i < L.length then x else at0 L j := by
  unfold at0
  rw [List.getD_eq_getElem?_getD, List.getElem?_set, List.getD_eq_getElem?_getD]
  by_cases h : i = j
  · subst h
    by_cases hl : i < L.length
    · simp [hl]
    · simp [hl]
  · simp [h]
theorem Bits.set {L : List Int} (h : Bits L) (i : Nat) {x : Int} (hx : x = 0 ∨ x = 1) : Bits (L.set i x) := by
  intro j
  rw [at0_set]
  split
  · exact hx
  · exact h j
theorem Bits.flipTo {L : List Int} (h : Bits L) (i : Nat) : Bits (flipTo L i) := by
  induction i with
  | zero => exact h
  | succ i ih => exact ih.set i (by have := ih i; omega)
theorem tmod2 (x : Int) (h : 0 ≤ x) : x.tmod 2 = 0 ∨ x.tmod 2 = 1 := by
  rw [Int.tmod_eq_emod_of_nonneg h]; omega
theorem bits_poly : Bits poly := by
  intro i
  by_cases h : i < 33
  · have : ∀ i, i < 33 → at0 poly i = 0 ∨ at0 poly i = 1 := by decide
    exact this i h
  · left
    unfold at0
    rw [List.getD_eq_getElem?_getD, List.getElem?_eq_none (by simp [poly]; omega)]
    rfl
theorem Bits.addTo {L : List Int} (h : Bits L) (k j : Nat) : Bits (addTo L k j) := by
  induction j with
  | zero => exact h
  | succ j ih => exact ih.set _ (tmod2 _ (by have := ih (k + j); have := bits_poly j; omega))
theorem Bits.divTo {L : List Int} (h : Bits L) (k : Nat) : Bits (divTo L k) := by
  induction k with
  | zero => exact h
  | succ k ih => rw [Cr.divTo]; split; exact ih.addTo k 33; exact ih
theorem at0_app (A B : List Int) (i : Nat) : at0 (A ++ B) i = if i < A.length then at0 A i else at0 B (i - A.length) := by
  unfold at0
  simp only [List.getD_eq_getElem?_getD, List.getElem?_append]
  split <;> rfl
theorem bits_iff (L : List Int) : Bits L ↔ ∀ x ∈ L, x = 0 ∨ x = 1 := by
  constructor
  · intro h x hx
    obtain ⟨i, hi, rfl⟩ := List.getElem_of_mem hx
    have := h i
    simpa [at0, List.getD_eq_getElem?_getD, List.getElem?_eq_getElem hi] using this
  · intro h i
    unfold at0
    rw [List.getD_eq_getElem?_getD]
    by_cases hi : i < L.length
    · rw [List.getElem?_eq_getElem hi]; exact h _ (List.getElem_mem hi)
    · rw [List.getElem?_eq_none (by omega)]; exact .inl rfl
theorem Bits.all (zs : List Int) (hz : ∀ x ∈ zs, 0 ≤ x ∧ x < 256) : Bits (allBits zs ++ List.replicate 32 0) := by
  rw [bits_iff]
  intro x hx
  rw [List.mem_append] at hx
  rcases hx with hx | hx
  · simp only [allBits, bitsTo, List.mem_flatMap, List.mem_map] at hx
    obtain ⟨z, hzm, j, _, rfl⟩ := hx
    exact tmod2 _ (Int.ediv_nonneg (hz z hzm).1 (by exact Int.le_of_lt (Int.pow_pos (by decide))))
  · rw [List.mem_replicate] at hx; exact .inl hx.2

/-! ### What the entries are -/
theorem at0_flipTo (L : List Int) (i j : Nat) (hi : i ≤ L.length) : at0 (flipTo L i) j = if j < i then 1 - at0 L j else at0 L j := by
  induction i with
  | zero => simp [flipTo]
  | succ i ih =>
    have ih := ih (by omega)
    rw [flipTo, at0_set, flipTo_length]
    by_cases h : i = j
    · subst h
      rw [if_pos ⟨rfl, by omega⟩, if_pos (by omega), ih, if_neg (by omega)]
    · rw [if_neg (by omega), ih]
      by_cases h2 : j < i
      · rw [if_pos h2, if_pos (by omega)]
      · rw [if_neg h2, if_neg (by omega)]
theorem at0_addTo (L : List Int) (k j i : Nat) (hk : k + j ≤ L.length) : at0 (addTo L k j) i = if k ≤ i ∧ i < k + j then (at0 L i + at0 poly (i - k)).tmod 2 else at0 L i := by
  induction j with
  | zero => rw [addTo, if_neg (by omega)]
  | succ j ih =>
    have ih := ih (by omega)
    rw [addTo, at0_set, addTo_length]
    by_cases h : k + j = i
    · subst h
      rw [if_pos ⟨rfl, by omega⟩, if_pos (by omega)]
      have e : at0 (addTo L k j) (k + j) = at0 L (k + j) := by
        clear ih
        induction j with
        | zero => rfl
        | succ j ih => 
          have : ∀ m, m ≤ j + 1 → at0 (addTo L k m) (k + (j + 1)) = at0 L (k + (j + 1)) := by
            intro m hm
            induction m with
            | zero => rfl
            | succ m ihm => rw [addTo, at0_set, if_neg (by omega), ihm (by omega)]
          exact this _ (Nat.le_refl _)
      rw [e]; congr 3; omega
    · rw [if_neg (by omega), ih]
      by_cases h2 : k ≤ i ∧ i < k + j
      · rw [if_pos h2, if_pos (by omega)]
      · rw [if_neg h2, if_neg (by omega)]

/-! ### Bit by bit -/
def b2i (b : Bool) : Int := if b then 1 else 0
def i2b (x : Int) : Bool := decide (x = 1)
theorem nx_bit (s : BitVec 32) (i : Nat) (hi : i < 32) : (nx s).getLsbD i = (s.getLsbD (i + 1) ^^ (s.getLsbD 0 && (3988292384#32).getLsbD i)) := by
  have hm : (-(s &&& 1#32)).getLsbD i = s.getLsbD 0 := by
    have h1 : s &&& 1#32 = if s.getLsbD 0 then 1#32 else 0#32 := by
      apply BitVec.eq_of_getLsbD_eq
      intro j hj
      rw [BitVec.getLsbD_and]
      by_cases h0 : j = 0
      · subst h0; cases s.getLsbD 0 <;> simp
      · have : (1#32).getLsbD j = false := by simp [h0]
        rw [this]; cases s.getLsbD 0 <;> simp [h0]
    rw [h1]
    have e1 : -1#32 = BitVec.allOnes 32 := by decide
    cases h : s.getLsbD 0
    · rw [if_neg (by decide)]; simp
    · rw [if_pos rfl, e1, BitVec.getLsbD_allOnes]; exact decide_eq_true hi
  unfold nx
  rw [BitVec.getLsbD_xor, BitVec.getLsbD_and, hm, BitVec.getLsbD_ushiftRight, Nat.add_comm 1 i, Bool.and_comm]
/-- One bit of the message. -/
def sb (s : BitVec 32) (m : Int) : BitVec 32 := nx (s ^^^ if i2b m then 1#32 else 0#32)
theorem one_bit (b : Bool) (i : Nat) : (if b then 1#32 else 0#32 : BitVec 32).getLsbD i = (b && decide (i = 0)) := by
  cases b <;> simp
theorem sb_bit (s : BitVec 32) (m : Int) (i : Nat) (hi : i < 32) : (sb s m).getLsbD i = (s.getLsbD (i + 1) ^^ ((s.getLsbD 0 ^^ i2b m) && (3988292384#32).getLsbD i)) := by
  unfold sb
  rw [nx_bit _ _ hi, BitVec.getLsbD_xor, BitVec.getLsbD_xor, one_bit, one_bit]
  simp
theorem xor_swap (a b c : Bool) : ((a ^^ b) ^^ c) = ((a ^^ c) ^^ b) := by cases a <;> cases b <;> cases c <;> rfl
theorem nx_parts (x y : BitVec 32) : nx (x ^^^ y) = nx (x ^^^ if y.getLsbD 0 then 1#32 else 0#32) ^^^ (y >>> 1) := by
  apply BitVec.eq_of_getLsbD_eq
  intro i hi
  rw [BitVec.getLsbD_xor, nx_bit _ _ hi, nx_bit _ _ hi, BitVec.getLsbD_xor, BitVec.getLsbD_xor, BitVec.getLsbD_xor, BitVec.getLsbD_xor, one_bit, one_bit, BitVec.getLsbD_ushiftRight, Nat.add_comm 1 i]
  have d1 : decide (i + 1 = 0) = false := by simp
  have d2 : decide (0 = 0) = true := by simp
  rw [d1, d2, Bool.and_false, Bool.and_true, Bool.xor_false]
  exact xor_swap _ _ _
def ser (s : BitVec 32) (ms : List Int) : BitVec 32 := ms.foldl sb s
theorem bitAt_b (b : Int) (j : Nat) (h0 : 0 ≤ b) (h : b < 4294967296) : i2b (bitAt b j) = (BitVec.ofInt 32 b).getLsbD j := by
  obtain ⟨n, rfl⟩ := Int.eq_ofNat_of_zero_le h0
  have hn : n < 4294967296 := by omega
  have e : bitAt (n : Int) j = ((n / 2 ^ j % 2 : Nat) : Int) := by
    unfold bitAt
    rw [Int.tmod_eq_emod_of_nonneg (Int.ediv_nonneg h0 (Int.le_of_lt (Int.pow_pos (by decide))))]
    simp
  rw [e, BitVec.ofInt_natCast, BitVec.getLsbD_ofNat, Nat.testBit_eq_decide_div_mod_eq]
  unfold i2b
  by_cases hj : j < 32
  · rw [decide_eq_true hj, Bool.true_and]
    generalize n / 2 ^ j % 2 = q
    exact decide_eq_decide.2 (by omega)
  · have h2 : 4294967296 ≤ 2 ^ j := Nat.pow_le_pow_right (n := 2) (by decide) (by omega : 32 ≤ j)
    have : n / 2 ^ j = 0 := Nat.div_eq_of_lt (by omega)
    simp [this, hj]
theorem nxs_ser (s : BitVec 32) (b : Int) (h0 : 0 ≤ b) (h : b < 4294967296) (k : Nat) : nxs k (s ^^^ BitVec.ofInt 32 b) = ser s (bitsTo b k) ^^^ (BitVec.ofInt 32 b >>> k) := by
  induction k with
  | zero => simp [nxs, ser, bitsTo]
  | succ k ih =>
    rw [nxs, ih, nx_parts, bitsTo_succ]
    unfold ser
    rw [List.foldl_append]
    show _ = sb _ _ ^^^ _
    unfold sb
    rw [BitVec.getLsbD_ushiftRight, Nat.add_zero, bitAt_b b k h0 h]
    congr 1
theorem nextB_ser (s : BitVec 32) (b : Int) (h0 : 0 ≤ b) (h : b < 256) : nextB s b = ser s (bitsTo b 8) := by
  unfold nextB
  rw [nxs_ser s b h0 (by omega) 8]
  have : BitVec.ofInt 32 b >>> 8 = 0#32 := by
    apply BitVec.eq_of_toNat_eq
    have e := toNat_ofInt b h0 (by omega)
    rw [BitVec.toNat_ushiftRight, Nat.shiftRight_eq_div_pow]
    have : (BitVec.ofInt 32 b).toNat < 256 := by omega
    simp
    omega
  rw [this]; simp
theorem rest_ser (s : BitVec 32) (zs : List Int) (hz : ∀ x ∈ zs, 0 ≤ x ∧ x < 256) : rest s zs = ser s (allBits zs) := by
  induction zs generalizing s with
  | nil => rfl
  | cons z zs ih =>
    have hz1 := hz z (by simp)
    show rest (nextB s z) zs = ser s (bitsTo z 8 ++ allBits zs)
    rw [ih _ (fun x hx => hz x (by simp [hx])), nextB_ser s z hz1.1 hz1.2]
    unfold ser
    rw [List.foldl_append]
end Go.Proofs.YtihnjhigemhknaaGreatDoor.Cr
