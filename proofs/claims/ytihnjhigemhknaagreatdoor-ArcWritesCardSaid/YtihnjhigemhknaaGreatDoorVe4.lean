/- 'Right' and 'Compare' of package ver. -/
import Derived.Test.YtihnjhigemhknaaGreatDoorVe3
namespace Go.Proofs.YtihnjhigemhknaaGreatDoor
open Go.RowKit
set_option linter.unusedVariables false
set_option linter.unusedSimpArgs false
set_option maxRecDepth 100000

theorem field_nums (a : Option Addr) (n c : Nat) (r : Int) (w : World) : (Instr.field 84 (.agg #[.slice a n c, .int .i64 r]) 0).run Tryz.prog w = .ok (.slice a n c) w := by kernel_rfl
theorem vright_any (s : ByteArray) (w : World) (hs : s.size ≤ 1000000) (hm : VMx w) : Calls Tryz.prog 20 #[.string s] w fun e w' => e = .returned (.bool (rightV s.data.toList)) ∧ Below w.heap.size w w' := by
  have HP := parse_any s w hs hm
  generalize s.data.toList = l at *
  go_enter Tryz.func20, Tryz.ntmps20
  go_wp2_with fail
  refine HP.mono ?_
  rintro e w2 ⟨v, rfl, hO⟩
  obtain ⟨a, c, hv, _, _⟩ := Own.sized (h := (show Own w w2 (⟨3, 1, v, (numsV l).length, (numsV l).map fun (n : Nat) => Value.int .i64 (n : Int)⟩ :: []) from hO))
  have hb := hO.below
  have HR := Lib.hid (rightV_nums l)
  clear hO
  subst hv
  have hfd := field_nums a (numsV l).length c (revV l) w2
  go_wp2_with fail
  go_ret
  refine ⟨?_, hb⟩
  rw [HR.out]
  have e2 : (decide ((0 : Int) < ((numsV l).length : Int))) = decide (0 < (numsV l).length) := by
    rw [Bool.eq_iff_iff, decide_eq_true_iff, decide_eq_true_iff]; omega
  rw [← e2]; rfl

/-- A slice reads as these numbers. -/
def NatsAt (w : World) (v : Value) (ns : List Nat) : Prop := ∃ a c, v = .slice a ns.length c ∧ ∀ j (hj : j < ns.length), ∃ g o, a = some ⟨g, o, none⟩ ∧ w.cell? ⟨g, o + j, none⟩ = some (.int .i64 (ns[j] : Int))
theorem NatsAt.own {W0 : Base} {w : World} {v : Value} {ns : List Nat} {L : List Rw} (h : Own W0 w L) (hm : rowN v ns ∈ L) : NatsAt w v ns := by
  have h1 : Own W0 w (⟨3, 1, v, ns.length, ns.map fun (n : Nat) => Value.int .i64 (n : Int)⟩ :: []) := h.only hm
  obtain ⟨a, c, hv, _, _⟩ := Own.sized (h := h1)
  refine ⟨a, c, hv, fun j hj => ?_⟩
  obtain ⟨g, cap, e, _⟩ := Own.form (h := h1) (by omega)
  rw [e] at hv h1
  injection hv with e1 _ _
  refine ⟨g, 0, e1.symm, ?_⟩
  rw [Nat.zero_add, Own.cell (h := h1) j (by omega), List.getElem?_map, List.getElem?_eq_getElem hj]; rfl
theorem NatsAt.later {w w' : World} {v : Value} {ns : List Nat} (h : NatsAt w v ns) (hb : Below w.heap.size w w') : NatsAt w' v ns := by
  obtain ⟨a, c, hv, hc⟩ := h
  refine ⟨a, c, hv, fun j hj => ?_⟩
  obtain ⟨g, o, e, h1⟩ := hc j hj
  exact ⟨g, o, e, by rw [hb.cell (p := ⟨g, o + j, none⟩) (World.block_lt_of_cell? w _ h1)]; exact h1⟩
theorem cmpN_ways (a b : Nat) : a < b ∧ cmpN a b = -1 ∨ b < a ∧ cmpN a b = 1 ∨ a = b ∧ cmpN a b = 0 := by
  have := cmpN_sign a b
  omega
theorem cmpL_at (x y : List Nat) (k : Nat) (h1 : k < x.length) (h2 : k < y.length) : cmpL (x.drop k) (y.drop k) = if x[k] = y[k] then cmpL (x.drop (k + 1)) (y.drop (k + 1)) else cmpN x[k] y[k] := by
  rw [← List.getElem_cons_drop h1, ← List.getElem_cons_drop h2]; rfl
theorem cmpL_end1 (x y : List Nat) (k : Nat) (h1 : k < x.length) (h2 : k = y.length) : cmpL (x.drop k) (y.drop k) = 1 := by
  rw [List.drop_of_length_le (l := y) (by omega), ← List.getElem_cons_drop h1]; rfl
theorem cmpL_end2 (x y : List Nat) (k : Nat) (h1 : k = x.length) (h2 : k < y.length) : cmpL (x.drop k) (y.drop k) = -1 := by
  rw [List.drop_of_length_le (l := x) (by omega), ← List.getElem_cons_drop h2]; rfl
theorem cmpL_end3 (x y : List Nat) (k : Nat) (h1 : k = x.length) (h2 : k = y.length) : cmpL (x.drop k) (y.drop k) = 0 := by
  rw [List.drop_of_length_le (by omega), List.drop_of_length_le (by omega)]; rfl
def CmpRel (x y : List Nat) (i : Value) : Prop := ∃ k : Nat, i = .int .i64 k ∧ k ≤ x.length ∧ k ≤ y.length ∧ cmpL (x.drop k) (y.drop k) = cmpL x y
/-- The first one that is not 0. -/
def OrRel (a b : Int) (i : Value) : Prop := i = .int .i64 0 ∨ i = .int .i64 1 ∧ a = 0 ∨ i = .int .i64 2 ∧ a = 0 ∧ b = 0
end Go.Proofs.YtihnjhigemhknaaGreatDoor
