/- slices.BinarySearch over texts in order; slices.Compact. -/
import Derived.Test.YtnjabanjgckeoaaJ1
import Derived.Sort.Walk0
namespace Go.Proofs.Ytnjabanjgckeoaa
open Go.RowKit
open Go.ChangeMaps (setBlock)
set_option linter.unusedVariables false
set_option linter.unusedSimpArgs false
set_option maxRecDepth 100000

theorem nan61_any (x : Nm) (w : World) : Calls Try.prog 47 #[.string (toB x)] w fun e w' => e = .returned (.bool false) ∧ w = w' := by
  have kb := beq_nm x x
  rw [decide_eq_true rfl] at kb
  generalize toB x = xb at *
  go_enter Try.func47, Try.ntmps47
  go_wp2
  go_ret
  exact ⟨rfl, rfl⟩
theorem nan73_any (x : Nm) (w : World) : Calls Try.prog 52 #[.string (toB x)] w fun e w' => e = .returned (.bool false) ∧ w = w' := by
  have kb := beq_nm x x
  rw [decide_eq_true rfl] at kb
  generalize toB x = xb at *
  go_enter Try.func52, Try.ntmps52
  go_wp2
  go_ret
  exact ⟨rfl, rfl⟩
set_option maxHeartbeats 1000000 in
theorem less60_any (x y : Nm) (w : World) : Calls Try.prog 46 #[.string (toB x), .string (toB y)] w fun e w' => e = .returned (.bool (decide (x < y))) ∧ w = w' := by
  have kx := nan73_any x w
  have HL := Lib.hid (show Op.bytesLess (toB x).toList (toB y).toList = decide (x < y) from by rw [Lib.toList_data, Lib.toList_data]; exact bytesLess_eq x y)
  generalize toB x = xb at *
  generalize toB y = yb at *
  go_enter Try.func46, Try.ntmps46
  go_wp2_with (go_at_call 52; refine kx.mono ?_; rintro e w' ⟨rfl, rfl⟩)
  go_ret
  exact ⟨by rw [← HL.out]; rfl, rfl⟩
theorem order_at {ls : List Nm} (ho : InOrder ls) {i j : Nat} (hi : i < ls.length) (hj : j < ls.length) (hij : i ≤ j) : ls[i] ≤ ls[j] := by
  rcases Nat.lt_or_ge i j with h | h
  · have := List.pairwise_iff_getElem.1 ho i j hi hj h
    unfold leN at this
    simpa using this
  · obtain rfl : i = j := by omega
    exact List.le_refl _
set_option maxHeartbeats 4000000 in
theorem bsearch_any (v : Value) (ls : List Nm) (x : Nm) (w : World) (h : Sts w v ls) (ho : InOrder ls) (hl : ls.length ≤ 1000000) :
    Calls Try.prog 34 #[v, .string (toB x)] w fun e w' => ∃ r, e = .returned (.tuple #[.int .i64 r, .bool (decide (x ∈ ls))]) ∧ w = w' := by
  obtain ⟨a, c, rfl, _, _, h4⟩ := h
  have H4 := Lib.hid h4
  have hlz : (ls.length : Int) ≤ 1000000 := by omega
  clear h4
  obtain ⟨xb, hxb⟩ : ∃ xb, toB x = xb := ⟨_, rfl⟩
  have HXB := Lib.hid hxb
  rw [hxb]
  clear hxb
  go_enter Try.func34, Try.ntmps34
  go_wp2_with fail
  go_loopw [7, 8] (fun s7 s8 wr => ∃ i j : Nat, i ≤ j ∧ j ≤ ls.length ∧ s7 = .int .i64 i ∧ s8 = .int .i64 j ∧ w = wr ∧ Hid (∀ q (hq : q < ls.length), q < i → ls[q] < x) ∧ Hid (∀ q (hq : q < ls.length), j ≤ q → ¬ ls[q] < x)) (fun s7 s8 _ => (intOf s8).toNat - (intOf s7).toNat)
  case atStart => exact ⟨0, ls.length, Nat.zero_le _, Nat.le_refl _, rfl, rfl, rfl, fun q _ h => absurd h (Nat.not_lt_zero _), fun q hq h => absurd hq (by omega)⟩
  case round =>
    obtain ⟨i, j, hij, hj, rfl, rfl, rfl, HA, HB⟩ := hrel
    by_cases hlt : i < j
    · have hz1 : (i : Int) < (j : Int) := by omega
      have hz2 : (j : Int) ≤ 1000000 := by omega
      go_upto_region 5 with fail
      obtain ⟨m, hm, hm1, hm2⟩ : ∃ m : Nat, ((i : Int) + (j : Int)) / 2 = (m : Int) ∧ i ≤ m ∧ m < j := ⟨(i + j) / 2, by omega, by omega, by omega⟩
      rw [hm]
      obtain ⟨b, o, rfl, _, hc⟩ := H4.out (by omega)
      have hml : m < ls.length := by omega
      have cm := hc m hml
      have kl := less60_any ls[m] x w
      rw [HXB.out] at kl
      have hmz : (m : Int) < (ls.length : Int) := by omega
      have hmz2 : (m : Int) + 1 ≤ 1000001 := by omega
      have Hm := Lib.hid hm
      clear hc hm
      by_cases hlx : ls[m] < x
      · rw [decide_eq_true hlx] at kl
        have HA2 := Lib.hid (show ∀ q (hq : q < ls.length), q < m + 1 → ls[q] < x from fun q hq hqm => Std.lt_of_le_of_lt (order_at ho hq hml (by omega)) hlx)
        clear hlx
        generalize toB ls[m] = mb at *
        go_wp2_with (go_at_call 46; refine kl.mono ?_; rintro e w9 ⟨rfl, rfl⟩)
        go_roundw
        case rel => exact ⟨m + 1, j, by omega, by omega, by go_num, rfl, trivial, HA2, HB⟩
        case measure => simp [intOf]; omega
      · rw [decide_eq_false hlx] at kl
        have HB2 := Lib.hid (show ∀ q (hq : q < ls.length), m ≤ q → ¬ ls[q] < x from fun q hq hqm hlt => hlx (Std.lt_of_le_of_lt (order_at ho hml hq hqm) hlt))
        clear hlx
        generalize toB ls[m] = mb at *
        go_wp2_with (go_at_call 46; refine kl.mono ?_; rintro e w9 ⟨rfl, rfl⟩)
        go_roundw
        case rel => exact ⟨i, m, by omega, by omega, rfl, rfl, trivial, HA, HB2⟩
        case measure => simp [intOf]; omega
    · obtain rfl : i = j := by omega
      by_cases hin : i < ls.length
      · obtain ⟨b, o, rfl, _, hc⟩ := H4.out (by omega)
        have ci := hc i hin
        have kb := beq_nm ls[i] x
        rw [HXB.out] at kb
        have hiz : (i : Int) < (ls.length : Int) := by omega
        have HX := Lib.hid (show decide (x ∈ ls) = decide (ls[i] = x) from by
          rw [Bool.eq_iff_iff, decide_eq_true_eq, decide_eq_true_eq]
          refine ⟨fun hm => ?_, fun e => e ▸ List.getElem_mem hin⟩
          obtain ⟨q, hq, e⟩ := List.getElem_of_mem hm
          have h1 : ¬ q < i := fun hqi => List.lt_irrefl _ (e ▸ HA.out q hq hqi)
          have h2 := order_at ho hin hq (by omega)
          rw [e] at h2
          have h3 := HB.out i hin (Nat.le_refl _)
          exact List.le_antisymm h2 (List.not_lt.1 h3))
        have k1 := nan61_any ls[i] w
        clear hc
        generalize decide (ls[i] = x) = bx at *
        generalize toB ls[i] = ib at *
        cases bx with
        | true =>
          go_wp2_with fail
          go_ret2
          exact ⟨_, by rw [HX.out]; rfl, rfl⟩
        | false =>
          go_wp2_with (go_at_call 47; refine k1.mono ?_; rintro e w9 ⟨rfl, rfl⟩)
          go_ret2
          exact ⟨_, by rw [HX.out]; rfl, rfl⟩
      · have hiz : (ls.length : Int) ≤ (i : Int) := by omega
        have HX := Lib.hid (show decide (x ∈ ls) = false from decide_eq_false fun hm => by
          obtain ⟨q, hq, e⟩ := List.getElem_of_mem hm
          exact List.lt_irrefl _ (e ▸ HA.out q hq (by omega)))
        go_wp2_with fail
        go_ret2
        exact ⟨_, by rw [HX.out]; rfl, rfl⟩
theorem compact_row {W0 : Base} {w : World} {L : List Rw} {v : Value} {ls : List Nm} (h : Own W0 w (rowSs v ls :: L)) (hl : ls.length ≤ 1000000) (hc : (Lib.compact ls).length ≤ ls.length) :
    Calls Try.prog 37 #[v] w fun e w' => ∃ v', e = .returned v' ∧ Own W0 w' (rowSs v' (Lib.compact ls) :: L) := by
  rcases row_form h with ⟨rfl, rfl⟩ | ⟨g, cap, cur, rfl, hg, hb, hn, hcap, hsz, htk⟩
  · refine (Try.slices_Compact_string_empty none 0 w).mono ?_
    rintro e w' ⟨rfl, rfl⟩
    exact ⟨_, rfl, h⟩
  · refine (Try.slices_Compact_string g 0 cap ls w (holds_of_block hb htk) (by omega) hn).mono ?_
    rintro e w' ⟨rfl, n, rfl⟩
    refine ⟨_, rfl, ?_⟩
    have hl2 : (Lib.compact ls ++ List.replicate (ls.length - (Lib.compact ls).length) ([] : Nm)).length = ls.length := by rw [List.length_append, List.length_replicate]; omega
    have h1 := row_put (n := n) (os := #[]) h hl2 hg hb hn hcap hsz
    rw [Sort.grow_empty] at h1
    have h2 := row_take (n := 0) h1 (Lib.compact ls).length (by omega)
    rw [List.take_left' rfl] at h2
    exact h2
end Go.Proofs.Ytnjabanjgckeoaa
