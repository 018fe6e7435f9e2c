/- The sum's steps are linear, and no step forgets anything. No condition but that bytes are bytes. -/
import Derived.Test.YtihnjhigemhknaaGreatDoorCDiv
namespace Go.Proofs.YtihnjhigemhknaaGreatDoor.Cr
set_option linter.unusedVariables false
set_option linter.unusedSimpArgs false
open Go.RowKit
set_option linter.unusedVariables false

/-- Two bytes turned by each other. -/
def bx (b c : Int) : Int := ((b.toNat ^^^ c.toNat : Nat) : Int)
theorem bx_byte (b c : Int) (hb : b < 256) (hc : c < 256) : 0 ≤ bx b c ∧ bx b c < 256 := by
  have : b.toNat ^^^ c.toNat < 2 ^ 8 := Nat.xor_lt_two_pow (by omega) (by omega)
  unfold bx
  omega
theorem bx_cancel (a b c : Int) (ha : 0 ≤ a) (hb : 0 ≤ b) : bx (bx a c) (bx b c) = bx a b := by
  unfold bx
  simp only [Int.toNat_natCast]
  rw [show a.toNat ^^^ c.toNat ^^^ (b.toNat ^^^ c.toNat) = a.toNat ^^^ b.toNat from by
    rw [Nat.xor_comm b.toNat, Nat.xor_assoc, ← Nat.xor_assoc c.toNat, Nat.xor_self, Nat.zero_xor]]
theorem bx_self (a : Int) : bx a a = 0 := by unfold bx; simp
theorem bx_inner (a c : Int) (hc : 0 ≤ c) : bx a (bx a c) = c := by
  unfold bx
  rw [Int.toNat_natCast, ← Nat.xor_assoc, Nat.xor_self, Nat.zero_xor]
  omega
theorem ofInt_bx (b c : Int) (hb0 : 0 ≤ b) (hb : b < 256) (hc0 : 0 ≤ c) (hc : c < 256) : BitVec.ofInt 32 (bx b c) = BitVec.ofInt 32 b ^^^ BitVec.ofInt 32 c := by
  obtain ⟨m, rfl⟩ := Int.eq_ofNat_of_zero_le hb0
  obtain ⟨n, rfl⟩ := Int.eq_ofNat_of_zero_le hc0
  unfold bx
  rw [BitVec.ofInt_natCast, BitVec.ofInt_natCast, BitVec.ofInt_natCast]
  apply BitVec.eq_of_toNat_eq
  rw [BitVec.toNat_xor, BitVec.toNat_ofNat, BitVec.toNat_ofNat, BitVec.toNat_ofNat, Int.toNat_natCast, Int.toNat_natCast]
  have : m ^^^ n < 2 ^ 8 := Nat.xor_lt_two_pow (by omega) (by omega)
  rw [Nat.mod_eq_of_lt (by omega : m < 2 ^ 32), Nat.mod_eq_of_lt (by omega : n < 2 ^ 32), Nat.mod_eq_of_lt (by omega)]

theorem nx_xor (s t : BitVec 32) : nx (s ^^^ t) = nx s ^^^ nx t := by
  apply BitVec.eq_of_getLsbD_eq
  intro i hi
  rw [BitVec.getLsbD_xor, nx_bit _ _ hi, nx_bit _ _ hi, nx_bit _ _ hi, BitVec.getLsbD_xor, BitVec.getLsbD_xor]
  cases s.getLsbD (i + 1) <;> cases t.getLsbD (i + 1) <;> cases s.getLsbD 0 <;> cases t.getLsbD 0 <;> cases (3988292384#32).getLsbD i <;> rfl
theorem nxs_xor (k : Nat) (s t : BitVec 32) : nxs k (s ^^^ t) = nxs k s ^^^ nxs k t := by
  induction k with
  | zero => rfl
  | succ k ih => rw [nxs, nxs, nxs, ih, nx_xor]
theorem nextB_xor (s t : BitVec 32) (b c : Int) (hb0 : 0 ≤ b) (hb : b < 256) (hc0 : 0 ≤ c) (hc : c < 256) : nextB s b ^^^ nextB t c = nextB (s ^^^ t) (bx b c) := by
  unfold nextB
  rw [← nxs_xor, ofInt_bx b c hb0 hb hc0 hc]
  congr 1
  rw [BitVec.xor_assoc, BitVec.xor_assoc, ← BitVec.xor_assoc (BitVec.ofInt 32 b), BitVec.xor_comm (BitVec.ofInt 32 b) t, BitVec.xor_assoc]
def bxs (x y : List Int) : List Int := List.zipWith bx x y
def Bytes (x : List Int) : Prop := ∀ n ∈ x, 0 ≤ n ∧ n < 256
theorem rest_xor (x y : List Int) (hx : Bytes x) (hy : Bytes y) (hl : x.length = y.length) (s t : BitVec 32) : rest s x ^^^ rest t y = rest (s ^^^ t) (bxs x y) := by
  induction x generalizing y s t with
  | nil =>
    cases y with
    | nil => rfl
    | cons c y => simp at hl
  | cons b x ih =>
    cases y with
    | nil => simp at hl
    | cons c y =>
      have hb := hx b (by simp)
      have hc := hy c (by simp)
      show rest (nextB s b) x ^^^ rest (nextB t c) y = rest (nextB (s ^^^ t) (bx b c)) (bxs x y)
      rw [ih y (fun n hn => hx n (by simp [hn])) (fun n hn => hy n (by simp [hn])) (by simpa using hl), nextB_xor s t b c hb.1 hb.2 hc.1 hc.2]
theorem crc_xor (x y : List Int) (hx : Bytes x) (hy : Bytes y) (hl : x.length = y.length) : crc x ^^^ crc y = rest 0 (bxs x y) := by
  unfold crc
  show _ = rest 0#32 _
  rw [← BitVec.xor_self (x := ones), ← rest_xor x y hx hy hl]
  apply BitVec.eq_of_getLsbD_eq
  intro i hi
  simp only [BitVec.getLsbD_xor, BitVec.getLsbD_not, hi, decide_true, Bool.true_and]
  cases (rest ones x).getLsbD i <;> cases (rest ones y).getLsbD i <;> rfl
theorem bxs_bytes (x y : List Int) (hx : Bytes x) (hy : Bytes y) : Bytes (bxs x y) := by
  intro n hn
  unfold bxs at hn
  rw [List.zipWith_eq_zipWith_take_min, List.mem_iff_getElem] at hn
  obtain ⟨i, hi, rfl⟩ := hn
  rw [List.getElem_zipWith]
  have h1 := hx _ (List.mem_of_mem_take (List.getElem_mem (by simp at hi ⊢; omega : i < (x.take (min x.length y.length)).length)))
  have h2 := hy _ (List.mem_of_mem_take (List.getElem_mem (by simp at hi ⊢; omega : i < (y.take (min x.length y.length)).length)))
  exact bx_byte _ _ h1.2 h2.2
/-- Rows of one length, turned alike. -/
theorem joins (x y b : List Int) (hx : Bytes x) (hy : Bytes y) (hb : Bytes b) (h1 : x.length = b.length) (h2 : y.length = b.length) : crc (bxs x b) ^^^ crc (bxs y b) = crc x ^^^ crc y := by
  rw [crc_xor _ _ (bxs_bytes x b hx hb) (bxs_bytes y b hy hb) (by simp [bxs]; omega), crc_xor x y hx hy (by omega)]
  congr 1
  unfold bxs
  apply List.ext_getElem
  · simp; omega
  · intro i h3 h4
    simp only [List.getElem_zipWith]
    simp at h3 h4
    exact bx_cancel _ _ _ (hx _ (List.getElem_mem _)).1 (hy _ (List.getElem_mem _)).1

/-! ### Nothing is forgotten -/
theorem nx_back (s : BitVec 32) (h : (nx s).toNat < 2 ^ 31) : s.toNat = 2 * (nx s).toNat := by
  have h31 : (nx s).getLsbD 31 = s.getLsbD 0 := by
    rw [nx_bit s 31 (by decide), BitVec.getLsbD_of_ge _ _ (by decide), Bool.false_xor]
    have : (3988292384#32).getLsbD 31 = true := by decide
    rw [this, Bool.and_true]
  have hf : (nx s).getLsbD 31 = false := by
    unfold BitVec.getLsbD
    exact Nat.testBit_lt_two_pow h
  have h0 : s.getLsbD 0 = false := by rw [← h31, hf]
  have e : nx s = s >>> 1 := by
    apply BitVec.eq_of_getLsbD_eq
    intro i hi
    rw [nx_bit s i hi, h0, Bool.false_and, Bool.xor_false, BitVec.getLsbD_ushiftRight, Nat.add_comm]
  have hb : s.toNat % 2 = 0 := by
    unfold BitVec.getLsbD at h0
    rw [Nat.testBit_zero] at h0
    have := of_decide_eq_false h0
    omega
  rw [e, BitVec.toNat_ushiftRight, Nat.shiftRight_eq_div_pow]
  omega
theorem nxs_back (k : Nat) (s : BitVec 32) (h : (nxs k s).toNat * 2 ^ k < 2 ^ 32) : s.toNat = (nxs k s).toNat * 2 ^ k := by
  induction k with
  | zero => simp [nxs]
  | succ k ih =>
    have hp : 0 < 2 ^ k := Nat.pow_pos (by decide)
    rw [nxs] at h ⊢
    rw [Nat.pow_succ] at h ⊢
    have h1 : (nx (nxs k s)).toNat < 2 ^ 31 := by
      have : (nx (nxs k s)).toNat * 1 ≤ (nx (nxs k s)).toNat * 2 ^ k := Nat.mul_le_mul_left _ hp
      rw [Nat.mul_comm (2 ^ k), ← Nat.mul_assoc, Nat.mul_right_comm] at h
      omega
    have hb := nx_back _ h1
    have e : (nxs k s).toNat * 2 ^ k = (nx (nxs k s)).toNat * (2 ^ k * 2) := by rw [hb, Nat.mul_comm (2 ^ k) 2, ← Nat.mul_assoc, Nat.mul_comm 2]
    rw [← e] at h ⊢
    exact ih h
theorem nextB_back (s : BitVec 32) (b : Int) (m : Nat) (hb0 : 0 ≤ b) (hb : b < 256) (hm : 8 ≤ m ∧ m ≤ 24 ∨ m = 0) (h : (nextB s b).toNat < 2 ^ m) : (s ^^^ BitVec.ofInt 32 b).toNat = 256 * (nextB s b).toNat := by
  have h' : (nextB s b).toNat < 2 ^ 24 := Nat.lt_of_lt_of_le h (Nat.pow_le_pow_right (n := 2) (by decide) (by omega))
  have := nxs_back 8 (s ^^^ BitVec.ofInt 32 b) (by unfold nextB at h'; omega)
  unfold nextB
  omega
theorem zero_of (s : BitVec 32) (h : s.toNat = 0) : s = 0#32 := BitVec.eq_of_toNat_eq (by simpa using h)
theorem byte_nat (b : Int) (h0 : 0 ≤ b) (h : b < 256) : ((BitVec.ofInt 32 b).toNat : Int) = b := toNat_ofInt b h0 (by omega)
/-- From s with b to s' alone: where both are small no bits meet. -/
theorem split_xor (s : BitVec 32) (b : Int) (q : Nat) (h0 : 0 ≤ b) (hb : b < 256) (h : (s ^^^ BitVec.ofInt 32 b).toNat = 256 * q) : s.toNat = 256 * q + b.toNat := by
  have e : s = (s ^^^ BitVec.ofInt 32 b) ^^^ BitVec.ofInt 32 b := by rw [BitVec.xor_assoc, BitVec.xor_self, BitVec.xor_zero]
  have hbn : (BitVec.ofInt 32 b).toNat = b.toNat := by have := byte_nat b h0 hb; omega
  rw [e, BitVec.toNat_xor, h, hbn]
  have : 256 * q + b.toNat = 256 * q ||| b.toNat := by
    rw [show 256 * q = q <<< 8 from by rw [Nat.shiftLeft_eq]; omega]
    exact Nat.shiftLeft_add_eq_or_of_lt (by omega) q
  rw [this]
  apply Nat.eq_of_testBit_eq
  intro i
  rw [Nat.testBit_xor, Nat.testBit_or]
  by_cases hi : i < 8
  · have : (256 * q).testBit i = false := by
      rw [show 256 * q = q <<< 8 from by rw [Nat.shiftLeft_eq]; omega, Nat.testBit_shiftLeft]
      simp; omega
    rw [this]; simp
  · have : b.toNat.testBit i = false := Nat.testBit_lt_two_pow (Nat.lt_of_lt_of_le (by omega : b.toNat < 2 ^ 8) (Nat.pow_le_pow_right (by decide) (by omega)))
    rw [this]; simp
theorem nextB_zero (s : BitVec 32) (b : Int) (h0 : 0 ≤ b) (hb : b < 256) (h : nextB s b = 0#32) : s.toNat = b.toNat := by
  have h1 := nextB_back s b 0 h0 hb (.inr rfl) (by rw [h]; decide)
  rw [h] at h1
  have := split_xor s b 0 h0 hb (by simpa using h1)
  omega
theorem four (b0 b1 b2 b3 : Int) (h0 : 0 ≤ b0 ∧ b0 < 256) (h1 : 0 ≤ b1 ∧ b1 < 256) (h2 : 0 ≤ b2 ∧ b2 < 256) (h3 : 0 ≤ b3 ∧ b3 < 256) (h : rest 0#32 [b0, b1, b2, b3] = 0#32) : b0 = 0 ∧ b1 = 0 ∧ b2 = 0 ∧ b3 = 0 := by
  have e : nextB (nextB (nextB (nextB 0#32 b0) b1) b2) b3 = 0#32 := h
  have k3 := nextB_zero (nextB (nextB (nextB 0#32 b0) b1) b2) b3 h3.1 h3.2 e
  have k2 := split_xor (nextB (nextB 0#32 b0) b1) b2 _ h2.1 h2.2 (nextB_back _ b2 8 h2.1 h2.2 (by omega) (by show _ < 256; omega))
  have k1 := split_xor (nextB 0#32 b0) b1 _ h1.1 h1.2 (nextB_back _ b1 16 h1.1 h1.2 (by omega) (by show _ < 65536; omega))
  have k0 := split_xor 0#32 b0 _ h0.1 h0.2 (nextB_back _ b0 24 h0.1 h0.2 (by omega) (by show _ < 16777216; omega))
  have z : (0#32 : BitVec 32).toNat = 0 := rfl
  omega
theorem rest_zeros (s : BitVec 32) (n : Nat) : rest s (List.replicate n 0) = 0#32 ↔ s = 0#32 := by
  induction n generalizing s with
  | zero => rfl
  | succ n ih =>
    show rest (nextB s 0) (List.replicate n 0) = 0#32 ↔ _
    rw [ih]
    constructor
    · intro h
      have := nextB_zero s 0 (by decide) (by decide) h
      exact zero_of s (by simpa using this)
    · rintro rfl
      decide +kernel
/-- Four bytes turned, from q on. -/
theorem tells (x c : List Int) (q : Nat) (b0 b1 b2 b3 : Int) (hx : Bytes x) (hc : Bytes c) (hl : c.length = x.length) (hq : q + 4 ≤ x.length) (h0 : 0 ≤ b0 ∧ b0 < 256) (h1 : 0 ≤ b1 ∧ b1 < 256) (h2 : 0 ≤ b2 ∧ b2 < 256) (h3 : 0 ≤ b3 ∧ b3 < 256)
    (he : ∀ i (hi : i < x.length) (hi' : i < c.length), c[i] = bx x[i] (if i = q then b0 else if i = q + 1 then b1 else if i = q + 2 then b2 else if i = q + 3 then b3 else 0)) :
    crc x = crc c ↔ b0 = 0 ∧ b1 = 0 ∧ b2 = 0 ∧ b3 = 0 := by
  have e : bxs x c = List.replicate q 0 ++ ([b0, b1, b2, b3] ++ List.replicate (x.length - q - 4) 0) := by
    apply List.ext_getElem
    · simp [bxs]; omega
    · intro i hi hi'
      have hix : i < x.length := by simp [bxs] at hi; omega
      have hxb := hx _ (List.getElem_mem hix)
      have e1 : (bxs x c)[i] = bx x[i] c[i] := by simp [bxs]
      rw [e1, he i hix (by omega), bx_inner _ _ (by split <;> (try split) <;> (try split) <;> (try split) <;> omega)]
      rw [List.getElem_append]
      by_cases c0 : i < q
      · rw [dif_pos (by simpa using c0), List.getElem_replicate, if_neg (by omega), if_neg (by omega), if_neg (by omega), if_neg (by omega)]
      · rw [dif_neg (by simpa using c0), List.getElem_append]
        by_cases c1 : i < q + 4
        · rw [dif_pos (by simp; omega)]
          have hcase : i = q ∨ i = q + 1 ∨ i = q + 2 ∨ i = q + 3 := by omega
          rcases hcase with rfl | rfl | rfl | rfl <;> simp
        · rw [dif_neg (by simp; omega), List.getElem_replicate, if_neg (by omega), if_neg (by omega), if_neg (by omega), if_neg (by omega)]
  have hd : crc x ^^^ crc c = rest 0#32 (bxs x c) := crc_xor x c hx hc hl.symm
  have e2 : rest 0#32 (bxs x c) = rest (rest (rest 0#32 (List.replicate q 0)) [b0, b1, b2, b3]) (List.replicate (x.length - q - 4) 0) := by
    rw [e]; unfold rest; rw [List.foldl_append, List.foldl_append]
  have hz : rest 0#32 (List.replicate q 0) = 0#32 := (rest_zeros _ _).2 rfl
  rw [e2, hz] at hd
  constructor
  · intro h
    rw [h, BitVec.xor_self] at hd
    exact four b0 b1 b2 b3 h0 h1 h2 h3 ((rest_zeros _ _).1 hd.symm)
  · rintro ⟨rfl, rfl, rfl, rfl⟩
    have : rest 0#32 [0, 0, 0, 0] = 0#32 := by decide +kernel
    rw [this, (rest_zeros 0#32 _).2 rfl] at hd
    have := congrArg (· ^^^ crc c) hd
    simpa [BitVec.xor_assoc] using this
end Go.Proofs.YtihnjhigemhknaaGreatDoor.Cr
