/- The sum of bytes as a plain function on 32 bits, and what the walks' own spelling of its operations is in it. No condition. -/
import Derived.Laws.BitsAllLaws
import Derived.RowKit
namespace Go.Proofs.YtihnjhigemhknaaGreatDoor
set_option linter.unusedVariables false
set_option linter.unusedSimpArgs false
open Go.RowKit

/-- One bit. -/
def nx (s : BitVec 32) : BitVec 32 := (s >>> 1) ^^^ (3988292384#32 &&& -(s &&& 1#32))
def nxs : Nat → BitVec 32 → BitVec 32
  | 0, s => s
  | k + 1, s => nx (nxs k s)
/-- One byte. -/
def nextB (s : BitVec 32) (b : Int) : BitVec 32 := nxs 8 (s ^^^ BitVec.ofInt 32 b)
def rest (s : BitVec 32) (bs : List Int) : BitVec 32 := bs.foldl nextB s
def ones : BitVec 32 := BitVec.allOnes 32
def crc (bs : List Int) : BitVec 32 := ~~~ rest ones bs

theorem ofInt_toNat (s : BitVec 32) : BitVec.ofInt 32 (s.toNat : Int) = s := by
  rw [BitVec.ofInt_natCast, BitVec.ofNat_toNat]; exact BitVec.setWidth_eq s
theorem toNat_ofInt (b : Int) (h0 : 0 ≤ b) (h : b < 4294967296) : ((BitVec.ofInt 32 b).toNat : Int) = b := by
  rw [BitVec.toNat_ofInt]; omega
theorem xor32 (s t : BitVec 32) : bits .xor .u32 (s.toNat : Int) (t.toNat : Int) = ((s ^^^ t).toNat : Int) := by
  rw [u32_xor_nat _ _ s.isLt t.isLt, BitVec.toNat_xor]
theorem and32 (s t : BitVec 32) : bits .and .u32 (s.toNat : Int) (t.toNat : Int) = ((s &&& t).toNat : Int) := by
  rw [u32_and_nat _ _ s.isLt t.isLt, BitVec.toNat_and]
theorem neg32 (s : BitVec 32) : (-(s.toNat : Int)) % 4294967296 = ((-s).toNat : Int) := by
  rw [BitVec.toNat_neg]
  have := s.isLt
  omega
theorem half32 (s : BitVec 32) : (s.toNat : Int) / (2 : Int) = ((s >>> 1).toNat : Int) := by
  rw [BitVec.toNat_ushiftRight, Nat.shiftRight_eq_div_pow]; exact (Int.natCast_ediv _ _).symm
theorem step32 (s : BitVec 32) : bits .xor .u32 ((s.toNat : Int) / (2 : Int)) (bits .and .u32 3988292384 (-bits .and .u32 (s.toNat : Int) 1 % 4294967296)) = ((nx s).toNat : Int) := by
  have e1 : bits .and .u32 (s.toNat : Int) 1 = ((s &&& 1#32).toNat : Int) := by rw [← and32]; rfl
  rw [e1, neg32, half32]
  have e2 : (3988292384 : Int) = ((3988292384#32 : BitVec 32).toNat : Int) := rfl
  rw [e2, and32, xor32]
  rfl
theorem start32 (s : BitVec 32) (b : Int) (h0 : 0 ≤ b) (h : b < 256) : bits .xor .u32 (s.toNat : Int) b = ((s ^^^ BitVec.ofInt 32 b).toNat : Int) := by
  rw [← xor32, toNat_ofInt b h0 (by omega)]
theorem not32 (s : BitVec 32) : bits .xor .u32 IntKind.u32.max (s.toNat : Int) = ((~~~ s).toNat : Int) := by
  have e : IntKind.u32.max = (((BitVec.allOnes 32).toNat : Nat) : Int) := rfl
  rw [e, xor32, BitVec.allOnes_xor]
theorem u32_congr {a b : BitVec 32} (h : a = b) : Value.int .u32 (a.toNat : Int) = .int .u32 (b.toNat : Int) := by rw [h]
theorem u32_of (s : BitVec 32) : 0 ≤ (s.toNat : Int) ∧ (s.toNat : Int) < 4294967296 := ⟨by omega, by have := s.isLt; omega⟩
end Go.Proofs.YtihnjhigemhknaaGreatDoor
