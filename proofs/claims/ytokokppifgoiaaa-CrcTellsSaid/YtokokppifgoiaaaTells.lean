/- 'CrcTells': of whatever bytes, place and four bytes the law returns true, and writes nothing that was there. -/
import Derived.Test.YtokokppifgoiaaaJoins
import Derived.Laws.StructEq
import Derived.Deep.DrawnRows
import Derived.Deep.RegionHeld3
namespace Go.Proofs.Ytokokppifgoiaaa
open Go.RowKit Go.WideShapes
set_option linter.unusedVariables false
set_option linter.unusedSimpArgs false

theorem and_1023 (q : Int) : ∃ m : Nat, bits .and .i64 q 1023 = (m : Int) ∧ m ≤ 1023 := by
  refine ⟨((BitVec.ofInt 64 q) &&& 1023#64).toNat, ?_, ?_⟩
  · show IntKind.i64.wrap ((BitVec.ofInt 64 q &&& BitVec.ofInt 64 1023).toNat : Int) = _
    have h : ((BitVec.ofInt 64 q) &&& 1023#64).toNat ≤ 1023 := by rw [BitVec.toNat_and]; exact Nat.and_le_right
    have e : BitVec.ofInt 64 1023 = 1023#64 := rfl
    rw [e]
    exact IntWalk.i64_in _ (by omega)
  · rw [BitVec.toNat_and]; exact Nat.and_le_right

/-- The four bytes. -/
def byAt (b0 b1 b2 b3 : Int) (k : Nat) : Int := match k with | 0 => b0 | 1 => b1 | 2 => b2 | 3 => b3 | _ => 0
def turnTo (x : List Int) (p : Nat) (b0 b1 b2 b3 : Int) : Nat → List Int
  | 0 => x
  | k + 1 => (turnTo x p b0 b1 b2 b3 k).set (p + k) (bx (at0 (turnTo x p b0 b1 b2 b3 k) (p + k)) (byAt b0 b1 b2 b3 k))

theorem turnTo_length (x : List Int) (p : Nat) (b0 b1 b2 b3 : Int) (k : Nat) : (turnTo x p b0 b1 b2 b3 k).length = x.length := by
  induction k with
  | zero => rfl
  | succ k ih => rw [turnTo, List.length_set, ih]
theorem turnTo_bytes (x : List Int) (p : Nat) (b0 b1 b2 b3 : Int) (hx : Bytes x) (hb : ∀ k, 0 ≤ byAt b0 b1 b2 b3 k ∧ byAt b0 b1 b2 b3 k < 256) (k : Nat) : Bytes (turnTo x p b0 b1 b2 b3 k) := by
  induction k with
  | zero => exact hx
  | succ k ih =>
    intro q hq
    rw [turnTo] at hq
    rcases List.mem_or_eq_of_mem_set hq with h | rfl
    · exact ih q h
    · exact bx_byte _ _ (byte_at _ ih _).2 (hb k).2
theorem index_0 (b0 b1 b2 b3 : Int) (W : World) : Sem.run Try.prog (Instr.index 28 (.agg #[.int .u8 b0, .int .u8 b1, .int .u8 b2, .int .u8 b3]) (.int .i64 0)) W = .ok (.int .u8 b0) W := by kernel_rfl
theorem index_1 (b0 b1 b2 b3 : Int) (W : World) : Sem.run Try.prog (Instr.index 28 (.agg #[.int .u8 b0, .int .u8 b1, .int .u8 b2, .int .u8 b3]) (.int .i64 1)) W = .ok (.int .u8 b1) W := by kernel_rfl
theorem index_2 (b0 b1 b2 b3 : Int) (W : World) : Sem.run Try.prog (Instr.index 28 (.agg #[.int .u8 b0, .int .u8 b1, .int .u8 b2, .int .u8 b3]) (.int .i64 2)) W = .ok (.int .u8 b2) W := by kernel_rfl
theorem index_3 (b0 b1 b2 b3 : Int) (W : World) : Sem.run Try.prog (Instr.index 28 (.agg #[.int .u8 b0, .int .u8 b1, .int .u8 b2, .int .u8 b3]) (.int .i64 3)) W = .ok (.int .u8 b3) W := by kernel_rfl
theorem index_by (b0 b1 b2 b3 : Int) (k : Nat) (hk : k < 4) (W : World) : Sem.run Try.prog (Instr.index 28 (.agg #[.int .u8 b0, .int .u8 b1, .int .u8 b2, .int .u8 b3]) (.int .i64 (k : Int))) W = .ok (.int .u8 (byAt b0 b1 b2 b3 k)) W := by
  have h : k = 0 ∨ k = 1 ∨ k = 2 ∨ k = 3 := by omega
  rcases h with rfl | rfl | rfl | rfl
  · exact index_0 b0 b1 b2 b3 W
  · exact index_1 b0 b1 b2 b3 W
  · exact index_2 b0 b1 b2 b3 W
  · exact index_3 b0 b1 b2 b3 W

theorem turn_tells (x : List Int) (p : Nat) (b0 b1 b2 b3 : Int) (hx : Bytes x) (hb : ∀ k, 0 ≤ byAt b0 b1 b2 b3 k ∧ byAt b0 b1 b2 b3 k < 256) (hp : p + 4 ≤ x.length) :
    crc x = crc (turnTo x p b0 b1 b2 b3 4) ↔ b0 = 0 ∧ b1 = 0 ∧ b2 = 0 ∧ b3 = 0 := by
  have h : ∀ k, k ≤ 4 → ∀ i, i < x.length → at0 (turnTo x p b0 b1 b2 b3 k) i = bx (at0 x i) (if p ≤ i ∧ i < p + k then byAt b0 b1 b2 b3 (i - p) else 0) := by
    intro k
    induction k with
    | zero =>
      intro _ i hi
      rw [if_neg (by omega), turnTo]
      unfold bx
      have := (byte_at x hx i).1
      simp
      omega
    | succ k ih =>
      intro hk i hi
      have ih := ih (by omega)
      rw [turnTo, at0_set, turnTo_length]
      by_cases h : p + k = i
      · subst h
        rw [if_pos ⟨rfl, hi⟩, if_pos (by omega), show p + k - p = k from by omega]
        have e : at0 (turnTo x p b0 b1 b2 b3 k) (p + k) = at0 x (p + k) := by
          rw [ih _ hi, if_neg (by omega)]
          unfold bx
          have := (byte_at x hx (p + k)).1
          simp
          omega
        rw [e]
      · rw [if_neg (by omega), ih i hi]
        by_cases h2 : p ≤ i ∧ i < p + k
        · rw [if_pos h2, if_pos (by omega)]
        · rw [if_neg h2, if_neg (by omega)]
  refine tells x _ p b0 b1 b2 b3 hx (turnTo_bytes x p b0 b1 b2 b3 hx hb 4) (turnTo_length _ _ _ _ _ _ _) hp (hb 0) (hb 1) (hb 2) (hb 3) ?_
  intro i hi hi'
  rw [← at0_get _ _ hi', h 4 (Nat.le_refl _) i hi, at0_get x i hi]
  congr 1
  by_cases c0 : i = p
  · subst c0; simp [byAt]
  · by_cases c1 : i = p + 1
    · subst c1; simp [byAt]
    · by_cases c2 : i = p + 2
      · subst c2; simp [byAt]
      · by_cases c3 : i = p + 3
        · subst c3; simp [byAt]
        · rw [if_neg (by omega), if_neg c0, if_neg c1, if_neg c2, if_neg c3]

theorem eq28 (a b c d : Int) (w : World) : (Op.equalIn 10000 28 (.agg #[.int .u8 a, .int .u8 b, .int .u8 c, .int .u8 d]) (.agg #[.int .u8 0, .int .u8 0, .int .u8 0, .int .u8 0])).run Try.prog w = .ok (a == 0 && (b == 0 && (c == 0 && d == 0))) w := by
  have u3 := Try.underlying5
  have a3 := Try.isAgg5
  have z3 := Try.sizeOf5
  rw [show (10000 : Nat) = 9999 + 1 from rfl, Op.equalIn]
  simp only [Sem.run_bind, run_underlying Try.underlying28, Result.andThen_ok]
  simp only [Std.Legacy.Range.forIn_eq_forIn_range', Std.Legacy.Range.size, Nat.sub_zero, Nat.add_sub_cancel, Nat.div_one, List.range'_succ, List.range'_zero, List.forIn_cons, List.forIn_nil]
  go_simp
  by_cases h1 : a = 0 <;> by_cases h2 : b = 0 <;> by_cases h3 : c = 0 <;> by_cases h4 : d = 0 <;> simp [h1, h2, h3, h4]
theorem same_bool {x C : List Int} {b0 b1 b2 b3 : Int} (h : crc x = crc C ↔ b0 = 0 ∧ b1 = 0 ∧ b2 = 0 ∧ b3 = 0) : (((crc x).toNat : Int) == ((crc C).toNat : Int)) = (b0 == 0 && (b1 == 0 && (b2 == 0 && b3 == 0))) := by
  rw [Bool.eq_iff_iff]
  simp only [Bool.and_eq_true, beq_iff_eq]
  rw [← h]
  constructor
  · intro e
    exact BitVec.eq_of_toNat_eq (by omega)
  · intro e; rw [e]
theorem IsBytes.drew {w : World} {v : Value} {zs : List Int} (h : IsBytes w v zs) : IsBytes w.drew v zs := h
theorem IsBytes.left {w : World} {b off len cap : Nat} {x : List Int} (h : IsBytes w (.slice (some ⟨b, off, none⟩) len cap) x) (p : Nat) (hp : p ≤ x.length) : IsBytes w (.slice (some ⟨b, off, none⟩) p cap) (x.take p) := by
  obtain ⟨a', cap', he, ⟨h1, h2, h3⟩, hz, hw⟩ := h
  injection he with e1 e2 e3
  subst e1 e2 e3
  have hl : (x.take p).length = p := by rw [List.length_take]; omega
  refine ⟨_, cap, by rw [hl], ⟨by omega, h2, fun h => by cases h⟩, fun hne => ?_, fun n hn => hw n (List.mem_of_mem_take hn)⟩
  obtain ⟨b', off', e, hc⟩ := hz (by intro h; subst h; simp at hne)
  refine ⟨b', off', e, fun j hj => ?_⟩
  rw [hc j (by omega)]
  simp [List.getD_eq_getElem?_getD, List.getElem?_take, show j < p by omega]
theorem IsBytes.right {w : World} {b off len cap : Nat} {x : List Int} (h : IsBytes w (.slice (some ⟨b, off, none⟩) len cap) x) (p : Nat) (hp : p ≤ x.length) : IsBytes w (.slice (some ⟨b, off + p, none⟩) (len - p) (cap - p)) (x.drop p) := by
  obtain ⟨a', cap', he, ⟨h1, h2, h3⟩, hz, hw⟩ := h
  injection he with e1 e2 e3
  subst e1 e2 e3
  have hl : (x.drop p).length = x.length - p := by rw [List.length_drop]
  refine ⟨_, cap - p, by rw [hl], ⟨by omega, by omega, fun h => by cases h⟩, fun hne => ⟨b, off + p, rfl, fun j hj => ?_⟩, fun n hn => hw n (List.mem_of_mem_drop hn)⟩
  obtain ⟨b', off', e, hc⟩ := hz (by intro h; subst h; simp at hne)
  injection e with e
  injection e with e1 e2
  subst e1 e2
  rw [Nat.add_assoc, hc (p + j) (by omega)]
  simp [List.getD_eq_getElem?_getD]

theorem cell_alloc0 {W : World} {a : Addr} {v : Value} (o : Obj) (h : W.cell? a = some v) : (W.alloc o).cell? a = some v := by
  obtain ⟨b, i, s⟩ := a
  obtain rfl : s = none := World.cell?_spot h
  exact (World.cell?_alloc_past _ _ _ (World.block_lt_of_cell? W _ h)).trans h
theorem Src_alloc {w : World} {x : Value} {news : List Value} {o : Obj} (h : Src w x news) : Src (w.alloc o) x news := by
  rcases h with h | ⟨ad, c, hx, hn, h1⟩
  · exact .inl h
  · exact .inr ⟨ad, c, hx, fun j u hj => cell_alloc0 o (hn j u hj), h1⟩
theorem cell_drew {W : World} {a : Addr} {v : Value} (h : W.cell? a = some v) : W.drew.cell? a = some v := h
theorem cell_alloc {W : World} {a : Addr} {v : Value} (o : Obj) (h : W.cell? a = some v) : (W.alloc o).cell? a = some v := by
  obtain ⟨b, i, s⟩ := a
  obtain rfl : s = none := World.cell?_spot h
  exact (World.cell?_alloc_past _ _ _ (World.block_lt_of_cell? W _ h)).trans h

attribute [local go_sem ↓] Go.wp_at_zero Go.wp_at_succ
set_option maxHeartbeats 3200000 in
theorem tells_any (v0 : Value) (x : List Int) (q b0 b1 b2 b3 : Int) (w : World) (h0 : IsBytes w v0 x) (hq : (Lit.int .i64 q).wf = true) (k0 : 0 ≤ b0 ∧ b0 < 256) (k1 : 0 ≤ b1 ∧ b1 < 256) (k2 : 0 ≤ b2 ∧ b2 < 256) (k3 : 0 ≤ b3 ∧ b3 < 256) :
    Calls Try.prog 4 #[v0, .int .i64 q, .agg #[.int .u8 b0, .int .u8 b1, .int .u8 b2, .int .u8 b3]] w fun e w' => e = .returned (.bool true) ∧ Below w.heap.size w w' := by
  obtain ⟨a0, c0, rfl, ⟨l0, m0, _⟩, z0, w0⟩ := id h0
  by_cases hn : x.length ≤ 300 ∧ 4 ≤ x.length
  · obtain ⟨hn1, hn2⟩ := hn
    obtain ⟨i0, hi, hz0, hz1, hz2⟩ := info_parts info5
    obtain ⟨bb, off, rfl, hcz⟩ := z0 (by intro h; subst h; simp at hn2)
    obtain ⟨m, hm, hm1⟩ := and_1023 q
    obtain ⟨p, hp⟩ : ∃ p, p = m % (x.length - 3) := ⟨_, rfl⟩
    have hp1 : p + 4 ≤ x.length := by have := Nat.mod_lt m (show 0 < x.length - 3 by omega); omega
    have hpe : (m : Int) % ((x.length : Int) - 3) = (p : Int) := by rw [hp, Int.natCast_emod, Int.natCast_sub (by omega)]; rfl
    clear hp
    have t1 : decide ((300 : Int) < (x.length : Int)) = false := by simp; omega
    have t2 : decide ((x.length : Int) < 4) = false := by simp; omega
    have hO1 : Own w (w.alloc (.cells #[.int .u8 b0, .int .u8 b1, .int .u8 b2, .int .u8 b3] 28)) [(28, .slice (some ⟨w.heap.size, 0, none⟩) 4 4, [.int .u8 b0, .int .u8 b1, .int .u8 b2, .int .u8 b3])] := (Own.start w).made 28 _ 4 rfl (by decide)
    go_enter Try.func4, Try.ntmps4
    go_wp2_with (first | (go_at_call 6; refine (alive_any _).mono ?_; rintro e w3 ⟨rfl, hb3⟩; have hO3 := hO1.later hb3; clear hb3 hO1) | (at_builtin; refine wpList_append_src rfl (.tmp 26) (.tmp 27) 22 rfl _ (.slice (some ⟨bb, off, none⟩) x.length c0) [] (bs x) rfl rfl (hO3.empty 5) i0 (.int .u8 0) 1 Try.underlying22 hi hz0 hz1 hz2 rfl ?c1 ?c2 ?c3 ?_))
    case c1 =>
      have := (h0.below hO3.below).src x.length (Nat.le_refl _)
      rw [List.take_length] at this
      exact Src_alloc this
    case c2 => unfold maxLen; simp [bs]; omega
    case c3 => simp [bs]; omega
    intro v4 w4 hO4
    obtain ⟨g, cp, e4, hg, _⟩ := hO4.form
    have e5 : v4 = .slice (some ⟨g, 0, none⟩) x.length cp := by simpa [bs] using e4
    clear e4
    subst e5
    have d0 : w4.cell? ⟨w.heap.size, 0, none⟩ = some (.int .u8 b0) := hO4.swap.cell 0 (by decide)
    have d1 : w4.cell? ⟨w.heap.size, 1, none⟩ = some (.int .u8 b1) := hO4.swap.cell 1 (by decide)
    have d2 : w4.cell? ⟨w.heap.size, 2, none⟩ = some (.int .u8 b2) := hO4.swap.cell 2 (by decide)
    have d3 : w4.cell? ⟨w.heap.size, 3, none⟩ = some (.int .u8 b3) := hO4.swap.cell 3 (by decide)
    go_wp2_with fail
    clear d0 d1 d2 d3
    have kk : ∀ k, 0 ≤ byAt b0 b1 b2 b3 k ∧ byAt b0 b1 b2 b3 k < 256 := fun k => by unfold byAt; split <;> omega
    go_loopw [8, 9, 30] (fun _ _ i wr => ∃ k : Nat, k ≤ 4 ∧ i = .int .i64 k ∧ Own w wr [(5, .slice (some ⟨g, 0, none⟩) x.length cp, bs (turnTo x p b0 b1 b2 b3 k)), (28, .slice (some ⟨w.heap.size, 0, none⟩) 4 4, [.int .u8 b0, .int .u8 b1, .int .u8 b2, .int .u8 b3])]) (fun _ _ i _ => 4 - (intOf i).toNat)
    case atStart => exact ⟨0, by omega, rfl, hO4⟩
    case round =>
      obtain ⟨k, hk, rfl, hO⟩ := hrel
      by_cases hlk : k < 4
      · have hix : ∀ W : World, Sem.run Try.prog (Instr.index 28 (.agg #[.int .u8 b0, .int .u8 b1, .int .u8 b2, .int .u8 b3]) (.int .i64 (k : Int))) W = .ok (.int .u8 (byAt b0 b1 b2 b3 k)) W := index_by b0 b1 b2 b3 k hlk
        have hc := own_u8 hO (p + k) (by omega)
        have hf := hO.free (p + k)
        have hS := hO.set (p + k) (.int .u8 (bx (at0 (turnTo x p b0 b1 b2 b3 k) (p + k)) (byAt b0 b1 b2 b3 k)))
        have hbx := bits_bx (at0 (turnTo x p b0 b1 b2 b3 k) (p + k)) (byAt b0 b1 b2 b3 k) (byte_at _ (turnTo_bytes x p b0 b1 b2 b3 w0 kk k) _) (kk k)
        have HT : Hid (turnTo x p b0 b1 b2 b3 (k + 1) = (turnTo x p b0 b1 b2 b3 k).set (p + k) (bx (at0 (turnTo x p b0 b1 b2 b3 k) (p + k)) (byAt b0 b1 b2 b3 k))) := rfl
        generalize at0 (turnTo x p b0 b1 b2 b3 k) (p + k) = r at *
        generalize byAt b0 b1 b2 b3 k = c at *
        have HS := Lib.hid hS
        clear hS hO z0 hcz
        go_wp2_with fail
        go_roundw
        case rel => exact ⟨k + 1, by omega, by go_num, by rw [HT.out]; simpa only [bs, List.map_set] using HS.out⟩
        case measure => simp [intOf]; omega
      · obtain rfl : k = 4 := by omega
        have hC := turnTo_bytes x p b0 b1 b2 b3 w0 kk 4
        have hiff := turn_tells x p b0 b1 b2 b3 w0 kk hp1
        generalize turnTo x p b0 b1 b2 b3 4 = C at *
        have hvc := own_bytes hO hC
        have hvx := h0.below hO.below
        have d0 : wr.cell? ⟨w.heap.size, 0, none⟩ = some (.int .u8 b0) := hO.swap.cell 0 (by decide)
        have d1 : wr.cell? ⟨w.heap.size, 1, none⟩ = some (.int .u8 b1) := hO.swap.cell 1 (by decide)
        have d2 : wr.cell? ⟨w.heap.size, 2, none⟩ = some (.int .u8 b2) := hO.swap.cell 2 (by decide)
        have d3 : wr.cell? ⟨w.heap.size, 3, none⟩ = some (.int .u8 b3) := hO.swap.cell 3 (by decide)
        have hws : w.heap.size < wr.heap.size := (hO.swap.lt (List.mem_cons_self ..) (k := w.heap.size) rfl).2
        have HB := Lib.hid hO.below
        have Hsz := Lib.hid hO.size
        have HI := Lib.hid hiff
        have HVC := Lib.hid hvc
        have HVX := Lib.hid hvx
        clear hO hiff hC hvc hvx z0 hcz h0 kk w0
        go_wp2_with fail
        have hpp : (p : Int) ≤ (x.length : Int) := by omega
        have hpc : (p : Int) ≤ (c0 : Int) := by omega
        have hp0 : (0 : Int) ≤ (p : Int) := by omega
        obtain ⟨B, hB1, hB2⟩ : ∃ B : Bool, (∀ W, Sem.run Try.prog (Op.equalIn 10000 28 (.agg #[.int .u8 b0, .int .u8 b1, .int .u8 b2, .int .u8 b3]) (.agg #[.int .u8 0, .int .u8 0, .int .u8 0, .int .u8 0])) W = .ok B W) ∧ (((crc x).toNat : Int) == ((crc C).toNat : Int)) = B :=
          ⟨_, eq28 b0 b1 b2 b3, same_bool HI.out⟩
        have HVL := Lib.hid (HVX.out.left p (by omega))
        have HVR := Lib.hid (HVX.out.right p (by omega))
        have hcut : ¬ c0 = p := by omega
        go_region_held3 (fun W => W.cell? ⟨w.heap.size, 0, none⟩ = some (.int .u8 b0) ∧ W.cell? ⟨w.heap.size, 1, none⟩ = some (.int .u8 b1) ∧ W.cell? ⟨w.heap.size, 2, none⟩ = some (.int .u8 b2) ∧ W.cell? ⟨w.heap.size, 3, none⟩ = some (.int .u8 b3)) ((refine ⟨?_, ?_, ?_, ?_⟩ <;> (repeat (first | assumption | refine cell_drew ?_ | refine cell_alloc _ ?_))))
          (first
            | (go_at_call 7; with_reducible refine (of_one _ (.slice (some ⟨bb, off, none⟩) x.length c0) x _ ?_ ?_).mono ?_; (focus (go_simp; done)); (focus (repeat (first | exact HVX.out | refine IsBytes.drew ?_ | refine IsBytes.alloc ?_ _))); rintro e w' ⟨rfl, rfl⟩)
            | (go_at_call 7; with_reducible refine (of_one _ (.slice (some ⟨g, 0, none⟩) x.length cp) C _ ?_ ?_).mono ?_; (focus (go_simp; done)); (focus (repeat (first | exact HVC.out | refine IsBytes.drew ?_ | refine IsBytes.alloc ?_ _))); rintro e w' ⟨rfl, rfl⟩)
            | (go_at_call 7; with_reducible refine (of_two _ (.slice (some ⟨bb, off, none⟩) p c0) (.slice (some ⟨bb, off + p, none⟩) (x.length - p) (c0 - p)) (x.take p) (x.drop p) _ ?_ ?_ ?_ ?_).mono ?_; (focus (go_simp; done)); (focus (go_simp; done)); (focus (repeat (first | exact HVL.out | refine IsBytes.drew ?_ | refine IsBytes.alloc ?_ _))); (focus (repeat (first | exact HVR.out | refine IsBytes.drew ?_ | refine IsBytes.alloc ?_ _))); rintro e w' ⟨rfl, rfl⟩))
        all_goals (go_wp2_with fail; go_ret)
        all_goals (refine ⟨rfl, ?_⟩; (repeat (first | exact HB.out | refine Below.drew ?_ | refine Below.alloc ?_ (by have := Hsz.out; simp; omega) _)))
  · by_cases h3 : 300 < x.length
    · have t1 : decide ((300 : Int) < (x.length : Int)) = true := by simp; omega
      go_enter Try.func4, Try.ntmps4
      go_wp2_with (first | (go_at_call 6; refine (alive_any _).mono ?_; rintro e w3 ⟨rfl, hb3⟩))
      go_ret
      exact ⟨rfl, ((Below.refl _ _).alloc (Nat.le_refl _) _).trans (hb3.mono (by simp))⟩
    · have t1 : decide ((300 : Int) < (x.length : Int)) = false := by simp; omega
      have t2 : decide ((x.length : Int) < 4) = true := by simp; omega
      go_enter Try.func4, Try.ntmps4
      go_wp2_with (first | (go_at_call 6; refine (alive_any _).mono ?_; rintro e w3 ⟨rfl, hb3⟩))
      go_ret
      exact ⟨rfl, ((Below.refl _ _).alloc (Nat.le_refl _) _).trans (hb3.mono (by simp))⟩
end Go.Proofs.Ytokokppifgoiaaa
