/- Four bytes of a row are turned, one by one: the row's sum is another one then. -/
import Derived.Test.YtihnjhigemhknaaGreatDoorAr23
import Derived.Laws.StructEq
namespace Go.Proofs.YtihnjhigemhknaaGreatDoor.Cr
open Go.RowKit
set_option linter.unusedVariables false
set_option linter.unusedSimpArgs false

theorem at0_get (L : List Int) (k : Nat) (h : k < L.length) : at0 L k = L[k] := by
  unfold at0
  rw [List.getD_eq_getElem?_getD, List.getElem?_eq_getElem h]
  rfl
theorem byte_at (L : List Int) (h : Bytes L) (k : Nat) : 0 ≤ at0 L k ∧ at0 L k < 256 := by
  by_cases hk : k < L.length
  · rw [at0_get L k hk]; exact h _ (List.getElem_mem hk)
  · unfold at0; rw [List.getD_eq_getElem?_getD, List.getElem?_eq_none (by omega)]; decide
theorem bits_bx (p q : Int) (hp : 0 ≤ p ∧ p < 256) (hq : 0 ≤ q ∧ q < 256) : Go.bits .xor .u8 p q = bx p q := u8_xor p q hp.1 hp.2 hq.1 hq.2
theorem and_65535 (q : Int) : ∃ m : Nat, Go.bits .and .i64 q 65535 = (m : Int) ∧ m ≤ 65535 := by
  refine ⟨((BitVec.ofInt 64 q) &&& 65535#64).toNat, ?_, ?_⟩
  · show IntKind.i64.wrap ((BitVec.ofInt 64 q &&& BitVec.ofInt 64 65535).toNat : Int) = _
    have h : ((BitVec.ofInt 64 q) &&& 65535#64).toNat ≤ 65535 := by rw [BitVec.toNat_and]; exact Nat.and_le_right
    have e : BitVec.ofInt 64 65535 = 65535#64 := rfl
    rw [e]
    exact IntWalk.i64_in _ (by omega)
  · rw [BitVec.toNat_and]; exact Nat.and_le_right

/-- The four bytes. -/
def byAt (b0 b1 b2 b3 : Int) (k : Nat) : Int := match k with | 0 => b0 | 1 => b1 | 2 => b2 | 3 => b3 | _ => 0
def turnTo (x : List Int) (p : Nat) (b0 b1 b2 b3 : Int) : Nat → List Int
  | 0 => x
  | k + 1 => (turnTo x p b0 b1 b2 b3 k).set (p + k) (bx (at0 (turnTo x p b0 b1 b2 b3 k) (p + k)) (byAt b0 b1 b2 b3 k))

theorem turnTo_length (x : List Int) (p : Nat) (b0 b1 b2 b3 : Int) (k : Nat) : (turnTo x p b0 b1 b2 b3 k).length = x.length := by
  induction k with
  | zero => rfl
  | succ k ih => rw [turnTo, List.length_set, ih]
theorem turnTo_bytes (x : List Int) (p : Nat) (b0 b1 b2 b3 : Int) (hx : Bytes x) (hb : ∀ k, 0 ≤ byAt b0 b1 b2 b3 k ∧ byAt b0 b1 b2 b3 k < 256) (k : Nat) : Bytes (turnTo x p b0 b1 b2 b3 k) := by
  induction k with
  | zero => exact hx
  | succ k ih =>
    intro q hq
    rw [turnTo] at hq
    rcases List.mem_or_eq_of_mem_set hq with h | rfl
    · exact ih q h
    · exact bx_byte _ _ (byte_at _ ih _).2 (hb k).2
theorem index_0 (b0 b1 b2 b3 : Int) (W : World) : Sem.run Tryz.prog (Instr.index 48 (.agg #[.int .u8 b0, .int .u8 b1, .int .u8 b2, .int .u8 b3]) (.int .i64 0)) W = .ok (.int .u8 b0) W := by kernel_rfl
theorem index_1 (b0 b1 b2 b3 : Int) (W : World) : Sem.run Tryz.prog (Instr.index 48 (.agg #[.int .u8 b0, .int .u8 b1, .int .u8 b2, .int .u8 b3]) (.int .i64 1)) W = .ok (.int .u8 b1) W := by kernel_rfl
theorem index_2 (b0 b1 b2 b3 : Int) (W : World) : Sem.run Tryz.prog (Instr.index 48 (.agg #[.int .u8 b0, .int .u8 b1, .int .u8 b2, .int .u8 b3]) (.int .i64 2)) W = .ok (.int .u8 b2) W := by kernel_rfl
theorem index_3 (b0 b1 b2 b3 : Int) (W : World) : Sem.run Tryz.prog (Instr.index 48 (.agg #[.int .u8 b0, .int .u8 b1, .int .u8 b2, .int .u8 b3]) (.int .i64 3)) W = .ok (.int .u8 b3) W := by kernel_rfl
theorem index_by (b0 b1 b2 b3 : Int) (k : Nat) (hk : k < 4) (W : World) : Sem.run Tryz.prog (Instr.index 48 (.agg #[.int .u8 b0, .int .u8 b1, .int .u8 b2, .int .u8 b3]) (.int .i64 (k : Int))) W = .ok (.int .u8 (byAt b0 b1 b2 b3 k)) W := by
  have h : k = 0 ∨ k = 1 ∨ k = 2 ∨ k = 3 := by omega
  rcases h with rfl | rfl | rfl | rfl
  · exact index_0 b0 b1 b2 b3 W
  · exact index_1 b0 b1 b2 b3 W
  · exact index_2 b0 b1 b2 b3 W
  · exact index_3 b0 b1 b2 b3 W

theorem turn_tells (x : List Int) (p : Nat) (b0 b1 b2 b3 : Int) (hx : Bytes x) (hb : ∀ k, 0 ≤ byAt b0 b1 b2 b3 k ∧ byAt b0 b1 b2 b3 k < 256) (hp : p + 4 ≤ x.length) :
    crc x = crc (turnTo x p b0 b1 b2 b3 4) ↔ b0 = 0 ∧ b1 = 0 ∧ b2 = 0 ∧ b3 = 0 := by
  have h : ∀ k, k ≤ 4 → ∀ i, i < x.length → at0 (turnTo x p b0 b1 b2 b3 k) i = bx (at0 x i) (if p ≤ i ∧ i < p + k then byAt b0 b1 b2 b3 (i - p) else 0) := by
    intro k
    induction k with
    | zero =>
      intro _ i hi
      rw [if_neg (by omega), turnTo]
      unfold bx
      have := (byte_at x hx i).1
      simp
      omega
    | succ k ih =>
      intro hk i hi
      have ih := ih (by omega)
      rw [turnTo, at0_set, turnTo_length]
      by_cases h : p + k = i
      · subst h
        rw [if_pos ⟨rfl, hi⟩, if_pos (by omega), show p + k - p = k from by omega]
        have e : at0 (turnTo x p b0 b1 b2 b3 k) (p + k) = at0 x (p + k) := by
          rw [ih _ hi, if_neg (by omega)]
          unfold bx
          have := (byte_at x hx (p + k)).1
          simp
          omega
        rw [e]
      · rw [if_neg (by omega), ih i hi]
        by_cases h2 : p ≤ i ∧ i < p + k
        · rw [if_pos h2, if_pos (by omega)]
        · rw [if_neg h2, if_neg (by omega)]
  refine tells x _ p b0 b1 b2 b3 hx (turnTo_bytes x p b0 b1 b2 b3 hx hb 4) (turnTo_length _ _ _ _ _ _ _) hp (hb 0) (hb 1) (hb 2) (hb 3) ?_
  intro i hi hi'
  rw [← at0_get _ _ hi', h 4 (Nat.le_refl _) i hi, at0_get x i hi]
  congr 1
  by_cases c0 : i = p
  · subst c0; simp [byAt]
  · by_cases c1 : i = p + 1
    · subst c1; simp [byAt]
    · by_cases c2 : i = p + 2
      · subst c2; simp [byAt]
      · by_cases c3 : i = p + 3
        · subst c3; simp [byAt]
        · rw [if_neg (by omega), if_neg c0, if_neg c1, if_neg c2, if_neg c3]

theorem eq4 (a b c d : Int) (w : World) : (Op.equalIn 10000 48 (.agg #[.int .u8 a, .int .u8 b, .int .u8 c, .int .u8 d]) (.agg #[.int .u8 0, .int .u8 0, .int .u8 0, .int .u8 0])).run Tryz.prog w = .ok (a == 0 && (b == 0 && (c == 0 && d == 0))) w := by
  have u3 := Tryz.underlying5
  have a3 := Tryz.isAgg5
  have z3 := Tryz.sizeOf5
  rw [show (10000 : Nat) = 9999 + 1 from rfl, Op.equalIn]
  simp only [Sem.run_bind, run_underlying Tryz.underlying48, Result.andThen_ok]
  simp only [Std.Legacy.Range.forIn_eq_forIn_range', Std.Legacy.Range.size, Nat.sub_zero, Nat.add_sub_cancel, Nat.div_one, List.range'_succ, List.range'_zero, List.forIn_cons, List.forIn_nil]
  go_simp
  by_cases h1 : a = 0 <;> by_cases h2 : b = 0 <;> by_cases h3 : c = 0 <;> by_cases h4 : d = 0 <;> simp [h1, h2, h3, h4]
end Go.Proofs.YtihnjhigemhknaaGreatDoor.Cr
