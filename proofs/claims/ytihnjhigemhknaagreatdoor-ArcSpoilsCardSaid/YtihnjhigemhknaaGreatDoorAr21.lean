/- Bytes with their own sum behind them have one and the same sum, whichever they are; so where up to four bytes in a row are turned the sum doesn't fit any more. -/
import Derived.Test.YtihnjhigemhknaaGreatDoorAr20
import Derived.Test.YtihnjhigemhknaaGreatDoorCLin
namespace Go.Proofs.YtihnjhigemhknaaGreatDoor
open Go.RowKit
set_option linter.unusedVariables false
set_option linter.unusedSimpArgs false

theorem nx_even (s : BitVec 32) (q : Nat) (h : s.toNat = 2 * q) : (nx s).toNat = q := by
  have e : s &&& 1#32 = 0#32 := by
    apply BitVec.eq_of_toNat_eq
    rw [BitVec.toNat_and]
    show s.toNat &&& 1 = 0
    rw [Nat.and_one_is_mod]; omega
  unfold nx
  rw [e, BitVec.neg_zero, BitVec.and_zero, BitVec.xor_zero, BitVec.toNat_ushiftRight, Nat.shiftRight_eq_div_pow]
  omega
theorem nxs_even : ∀ (k : Nat) (s : BitVec 32) (q : Nat), s.toNat = 2 ^ k * q → (nxs k s).toNat = q
  | 0, s, q, h => by show s.toNat = q; rw [h]; simp
  | k + 1, s, q, h => nx_even _ q (nxs_even k s (2 * q) (by rw [h, Nat.pow_succ, Nat.mul_assoc]))
theorem low_off (t : BitVec 32) (b : Int) (q : Nat) (h0 : 0 ≤ b) (hb : b < 256) (h : t.toNat = 256 * q + b.toNat) : (t ^^^ BitVec.ofInt 32 b).toNat = 256 * q := by
  have ht := t.isLt
  have hq : (BitVec.ofNat 32 (256 * q)).toNat = 256 * q := by rw [BitVec.toNat_ofNat]; exact Nat.mod_eq_of_lt (by omega)
  have hu := Cr.split_xor (BitVec.ofNat 32 (256 * q) ^^^ BitVec.ofInt 32 b) b q h0 hb (by rw [BitVec.xor_assoc, BitVec.xor_self, BitVec.xor_zero]; exact hq)
  have e : BitVec.ofNat 32 (256 * q) ^^^ BitVec.ofInt 32 b = t := BitVec.eq_of_toNat_eq (by rw [hu, h])
  rw [← e, BitVec.xor_assoc, BitVec.xor_self, BitVec.xor_zero]
  exact hq
theorem nextB_low (t : BitVec 32) (b : Int) (q : Nat) (h0 : 0 ≤ b) (hb : b < 256) (h : t.toNat = 256 * q + b.toNat) : (nextB t b).toNat = q :=
  nxs_even 8 _ q (low_off t b q h0 hb h)
theorem rest_own (t : BitVec 32) : rest t (le4 (t.toNat : Int)) = 0#32 := by
  have ht := t.isLt
  unfold rest le4
  simp only [List.foldl_cons, List.foldl_nil]
  have h1 := nextB_low t ((t.toNat : Int) % 256) (t.toNat / 256) (by omega) (by omega) (by omega)
  generalize nextB t ((t.toNat : Int) % 256) = t1 at *
  have h2 := nextB_low t1 ((t.toNat : Int) / 256 % 256) (t.toNat / 65536) (by omega) (by omega) (by omega)
  generalize nextB t1 ((t.toNat : Int) / 256 % 256) = t2 at *
  have h3 := nextB_low t2 ((t.toNat : Int) / 65536 % 256) (t.toNat / 16777216) (by omega) (by omega) (by omega)
  generalize nextB t2 ((t.toNat : Int) / 65536 % 256) = t3 at *
  have h4 := nextB_low t3 ((t.toNat : Int) / 16777216) 0 (by omega) (by omega) (by omega)
  exact Cr.zero_of _ h4
theorem byts_cr {x : List Int} (h : Byts x) : Cr.Bytes x := fun n hn => h n hn
theorem rest_le4 (s t : BitVec 32) : rest s (le4 (t.toNat : Int)) = rest (s ^^^ t) [0, 0, 0, 0] := by
  have hb : Cr.Bytes (le4 (t.toNat : Int)) := byts_cr (le4_byts _ (by omega) (by have := t.isLt; omega))
  have h := Cr.rest_xor (le4 (t.toNat : Int)) (le4 (t.toNat : Int)) hb hb rfl s t
  have e : Cr.bxs (le4 (t.toNat : Int)) (le4 (t.toNat : Int)) = [0, 0, 0, 0] := by
    unfold Cr.bxs le4
    simp only [List.zipWith_cons_cons, List.zipWith_nil_left, Cr.bx_self]
  rw [rest_own, BitVec.xor_zero, e] at h
  exact h
/-- The sum that all bytes with their own sum behind them have. -/
def sumFix : BitVec 32 := ~~~ rest (BitVec.allOnes 32) [0, 0, 0, 0]
theorem crc_own (x : List Int) : crc (x ++ le4 (crcI x)) = sumFix := by
  have e : rest ones (x ++ le4 (crcI x)) = rest (rest ones x) (le4 (crcI x)) := by unfold rest; rw [List.foldl_append]
  unfold crc
  rw [e]
  show ~~~ rest (rest ones x) (le4 (((crc x).toNat : Nat) : Int)) = _
  rw [rest_le4]
  have e2 : rest ones x ^^^ crc x = BitVec.allOnes 32 := by
    unfold crc
    generalize rest ones x = s
    rw [← BitVec.allOnes_xor, BitVec.xor_comm (BitVec.allOnes 32), ← BitVec.xor_assoc, BitVec.xor_self, BitVec.zero_xor]
  rw [e2]
  rfl
/-- The sum that lies behind the other bytes is theirs. -/
def sumFits (zs : List Int) : Prop := le4 (crcI (zs.take (zs.length - 4))) = zs.drop (zs.length - 4)
theorem crc_fits {zs : List Int} (h : sumFits zs) : crc zs = sumFix := by
  have e : zs = zs.take (zs.length - 4) ++ le4 (crcI (zs.take (zs.length - 4))) := by rw [h, List.take_append_drop]
  rw [e]
  exact crc_own _
theorem fits_own (x : List Int) : sumFits (x ++ le4 (crcI x)) := by
  have hl : (x ++ le4 (crcI x)).length - 4 = x.length := by rw [List.length_append]; show x.length + 4 - 4 = _; omega
  unfold sumFits
  rw [hl, List.take_left' rfl, List.drop_left' rfl]
end Go.Proofs.YtihnjhigemhknaaGreatDoor
