/- 'Right' and 'Compare' of package ver. -/
import Derived.Test.YtlcepgbliblilaaDoorVe3
namespace Go.Proofs.YtlcepgbliblilaaDoor
open Go.RowKit
set_option linter.unusedVariables false
set_option linter.unusedSimpArgs false
set_option maxRecDepth 100000

theorem field_nums (a : Option Addr) (n c : Nat) (r : Int) (w : World) : (Instr.field 34 (.agg #[.slice a n c, .int .i64 r]) 0).run Tryd.prog w = .ok (.slice a n c) w := by kernel_rfl
theorem vright_any (s : ByteArray) (w : World) (hs : s.size ≤ 1000000) (hm : VMx w) : Calls Tryd.prog 8 #[.string s] w fun e w' => e = .returned (.bool (rightV s.data.toList)) ∧ Below w.heap.size w w' := by
  have HP := parse_any s w hs hm
  generalize s.data.toList = l at *
  go_enter Tryd.func8, Tryd.ntmps8
  go_wp2_with fail
  refine HP.mono ?_
  rintro e w2 ⟨v, rfl, hO⟩
  obtain ⟨a, c, hv, _, _⟩ := Own.sized (h := (show Own w w2 (⟨3, 1, v, (numsV l).length, (numsV l).map fun (n : Nat) => Value.int .i64 (n : Int)⟩ :: []) from hO))
  have hb := hO.below
  have HR := Lib.hid (rightV_nums l)
  clear hO
  subst hv
  have hfd := field_nums a (numsV l).length c (revV l) w2
  go_wp2_with fail
  go_ret
  refine ⟨?_, hb⟩
  rw [HR.out]
  have e2 : (decide ((0 : Int) < ((numsV l).length : Int))) = decide (0 < (numsV l).length) := by
    rw [Bool.eq_iff_iff, decide_eq_true_iff, decide_eq_true_iff]; omega
  rw [← e2]; rfl

/-- A slice reads as these numbers. -/
def NatsAt (w : World) (v : Value) (ns : List Nat) : Prop := ∃ a c, v = .slice a ns.length c ∧ ∀ j (hj : j < ns.length), ∃ g o, a = some ⟨g, o, none⟩ ∧ w.cell? ⟨g, o + j, none⟩ = some (.int .i64 (ns[j] : Int))
theorem NatsAt.own {W0 : Base} {w : World} {v : Value} {ns : List Nat} {L : List Rw} (h : Own W0 w L) (hm : rowN v ns ∈ L) : NatsAt w v ns := by
  have h1 : Own W0 w (⟨3, 1, v, ns.length, ns.map fun (n : Nat) => Value.int .i64 (n : Int)⟩ :: []) := h.only hm
  obtain ⟨a, c, hv, _, _⟩ := Own.sized (h := h1)
  refine ⟨a, c, hv, fun j hj => ?_⟩
  obtain ⟨g, cap, e, _⟩ := Own.form (h := h1) (by omega)
  rw [e] at hv h1
  injection hv with e1 _ _
  refine ⟨g, 0, e1.symm, ?_⟩
  rw [Nat.zero_add, Own.cell (h := h1) j (by omega), List.getElem?_map, List.getElem?_eq_getElem hj]; rfl
theorem NatsAt.later {w w' : World} {v : Value} {ns : List Nat} (h : NatsAt w v ns) (hb : Below w.heap.size w w') : NatsAt w' v ns := by
  obtain ⟨a, c, hv, hc⟩ := h
  refine ⟨a, c, hv, fun j hj => ?_⟩
  obtain ⟨g, o, e, h1⟩ := hc j hj
  exact ⟨g, o, e, by rw [hb.cell (p := ⟨g, o + j, none⟩) (World.block_lt_of_cell? w _ h1)]; exact h1⟩
theorem cmpN_ways (a b : Nat) : a < b ∧ cmpN a b = -1 ∨ b < a ∧ cmpN a b = 1 ∨ a = b ∧ cmpN a b = 0 := by
  have := cmpN_sign a b
  omega
theorem cmpc_any (a b : Nat) (w : World) : Calls Tryd.prog 17 #[.int .i64 a, .int .i64 b] w fun e w' => e = .returned (.int .i64 (cmpN a b)) ∧ w = w' := by
  rcases cmpN_ways a b with ⟨h, h2⟩ | ⟨h, h2⟩ | ⟨h, h2⟩
  · rw [h2]
    have h3 : (a : Int) < b := by omega
    go_enter Tryd.func17, Tryd.ntmps17
    go_wp2
    go_ret
    exact ⟨rfl, rfl⟩
  · rw [h2]
    have h3 : (b : Int) < a := by omega
    have h4 : ¬ (a : Int) < b := by omega
    go_enter Tryd.func17, Tryd.ntmps17
    go_wp2
    go_ret
    exact ⟨rfl, rfl⟩
  · rw [h2]
    subst h
    go_enter Tryd.func17, Tryd.ntmps17
    go_wp2
    go_ret
    exact ⟨rfl, rfl⟩
theorem cmpL_at (x y : List Nat) (k : Nat) (h1 : k < x.length) (h2 : k < y.length) : cmpL (x.drop k) (y.drop k) = if x[k] = y[k] then cmpL (x.drop (k + 1)) (y.drop (k + 1)) else cmpN x[k] y[k] := by
  rw [← List.getElem_cons_drop h1, ← List.getElem_cons_drop h2]; rfl
theorem cmpL_end1 (x y : List Nat) (k : Nat) (h1 : k < x.length) (h2 : k = y.length) : cmpL (x.drop k) (y.drop k) = 1 := by
  rw [List.drop_of_length_le (l := y) (by omega), ← List.getElem_cons_drop h1]; rfl
theorem cmpL_end2 (x y : List Nat) (k : Nat) (h1 : k = x.length) (h2 : k < y.length) : cmpL (x.drop k) (y.drop k) = -1 := by
  rw [List.drop_of_length_le (l := x) (by omega), ← List.getElem_cons_drop h2]; rfl
theorem cmpL_end3 (x y : List Nat) (k : Nat) (h1 : k = x.length) (h2 : k = y.length) : cmpL (x.drop k) (y.drop k) = 0 := by
  rw [List.drop_of_length_le (by omega), List.drop_of_length_le (by omega)]; rfl
def CmpRel (x y : List Nat) (i : Value) : Prop := ∃ k : Nat, i = .int .i64 k ∧ k ≤ x.length ∧ k ≤ y.length ∧ cmpL (x.drop k) (y.drop k) = cmpL x y
set_option maxHeartbeats 2000000 in
theorem cmps_any {w : World} {u v : Value} {x y : List Nat} (hu : NatsAt w u x) (hv : NatsAt w v y) (hx : x.length ≤ 4) (hy : y.length ≤ 4) : Calls Tryd.prog 16 #[u, v] w fun e w' => e = .returned (.int .i64 (cmpL x y)) ∧ w = w' := by
  obtain ⟨a, c, rfl, hc⟩ := hu
  obtain ⟨b, d, rfl, hd⟩ := hv
  have Hst := Lib.hid (show CmpRel x y (.int .i64 0) from ⟨0, rfl, Nat.zero_le _, Nat.zero_le _, by rw [List.drop_zero, List.drop_zero]⟩)
  have HC := fun p q => cmpc_any p q w
  go_enter Tryd.func16, Tryd.ntmps16
  go_wp2_with fail
  go_loop [11] (fun i => CmpRel x y i) (fun i => x.length - (intOf i).toNat)
  case atStart => exact Hst.out
  case round =>
    obtain ⟨k, rfl, hk1, hk2, hk⟩ := hrel
    clear Hst
    have Hk := Lib.hid hk
    clear hk
    by_cases h1 : k < x.length
    · by_cases h2 : k < y.length
      · obtain ⟨g1, o1, rfl, hc1⟩ := hc k h1
        obtain ⟨g2, o2, rfl, hc2⟩ := hd k h2
        have HA := Lib.hid (cmpL_at x y k h1 h2)
        have hcc := HC x[k] y[k]
        clear hc hd HC
        have hn1 : ¬ ((y.length : Int) ≤ (k : Int)) := by omega
        rcases cmpN_ways x[k] y[k] with ⟨h3, h4⟩ | ⟨h3, h4⟩ | ⟨h3, h4⟩
        · rw [h4] at hcc
          have HZ := Lib.hid (show cmpL x y = -1 by rw [← Hk.out, HA.out, if_neg (by omega), h4])
          clear h3 h4
          go_wp2_with fail
          refine hcc.mono ?_
          rintro e w' ⟨rfl, rfl⟩
          go_wp2_with fail
          go_ret
          exact ⟨by rw [HZ.out]; rfl, rfl⟩
        · rw [h4] at hcc
          have HZ := Lib.hid (show cmpL x y = 1 by rw [← Hk.out, HA.out, if_neg (by omega), h4])
          clear h3 h4
          go_wp2_with fail
          refine hcc.mono ?_
          rintro e w' ⟨rfl, rfl⟩
          go_wp2_with fail
          go_ret
          exact ⟨by rw [HZ.out]; rfl, rfl⟩
        · rw [h4] at hcc
          have HZ := Lib.hid (show CmpRel x y (.int .i64 ((k + 1 : Nat) : Int)) from ⟨k + 1, rfl, h1, h2, by rw [← Hk.out, HA.out, if_pos h3]⟩)
          clear h3 h4
          go_wp2_with fail
          refine hcc.mono ?_
          rintro e w' ⟨rfl, rfl⟩
          go_wp2_with fail
          go_round
          case rel =>
            have e1 : (Value.int IntKind.i64 ((k : Int) + 1)) = .int .i64 ((k + 1 : Nat) : Int) := by go_num
            first | exact HZ.out | (rw [e1]; exact HZ.out)
          case measure => simp [intOf]; omega
      · have HZ := Lib.hid (show cmpL x y = 1 by rw [← Hk.out, cmpL_end1 x y k h1 (by omega)])
        obtain ⟨g1, o1, rfl, hc1⟩ := hc k h1
        obtain rfl : k = y.length := by omega
        clear hc hd HC
        go_wp2_with fail
        go_ret
        exact ⟨by rw [HZ.out]; rfl, rfl⟩
    · by_cases h2 : k < y.length
      · have HZ := Lib.hid (show cmpL x y = -1 by rw [← Hk.out, cmpL_end2 x y k (by omega) h2])
        obtain rfl : k = x.length := by omega
        clear hc hd HC
        go_wp2_with fail
        go_ret
        exact ⟨by rw [HZ.out]; rfl, rfl⟩
      · have HZ := Lib.hid (show cmpL x y = 0 by rw [← Hk.out, cmpL_end3 x y k (by omega) (by omega)])
        have he : ¬ ((x.length : Int) < y.length) := by omega
        obtain rfl : k = x.length := by omega
        clear hc hd HC
        go_wp2_with fail
        go_ret
        exact ⟨by rw [HZ.out]; rfl, rfl⟩
/-- The first one that is not 0. -/
def OrRel (a b : Int) (i : Value) : Prop := i = .int .i64 0 ∨ i = .int .i64 1 ∧ a = 0 ∨ i = .int .i64 2 ∧ a = 0 ∧ b = 0
theorem or_any (a b : Int) (g : Nat) (w : World) (h0 : w.cell? ⟨g, 0, none⟩ = some (.int .i64 a)) (h1 : w.cell? ⟨g, 1, none⟩ = some (.int .i64 b)) :
    Calls Tryd.prog 15 #[.slice (some ⟨g, 0, none⟩) 2 2] w fun e w' => e = .returned (.int .i64 (if a = 0 then b else a)) ∧ w = w' := by
  have Hst := Lib.hid (show OrRel a b (.int .i64 0) from .inl rfl)
  have H1 := Lib.hid (show a = 0 → OrRel a b (.int .i64 1) from fun h => .inr (.inl ⟨rfl, h⟩))
  have H2 := Lib.hid (show a = 0 → b = 0 → OrRel a b (.int .i64 2) from fun h k => .inr (.inr ⟨rfl, h, k⟩))
  go_enter Tryd.func15, Tryd.ntmps15
  go_wp2_with fail
  go_loop [8] (fun i => OrRel a b i) (fun i => 2 - (intOf i).toNat)
  case atStart => exact Hst.out
  case round =>
    clear Hst
    rcases hrel with rfl | ⟨rfl, rfl⟩ | ⟨rfl, rfl, rfl⟩
    · by_cases ha : a = 0
      · have HR := Lib.hid (H1.out ha)
        subst ha
        go_wp2_with fail
        go_round
        case rel => exact HR.out
        case measure => simp [intOf]
      · go_wp2_with fail
        go_ret
        refine ⟨?_, rfl⟩
        rfl
    · by_cases hb : b = 0
      · have HR := Lib.hid (H2.out rfl hb)
        subst hb
        go_wp2_with fail
        go_round
        case rel => exact HR.out
        case measure => simp [intOf]
      · go_wp2_with fail
        go_ret
        refine ⟨?_, rfl⟩
        rfl
    · go_wp2_with fail
      go_ret
      refine ⟨?_, rfl⟩
      rfl
end Go.Proofs.YtlcepgbliblilaaDoor
