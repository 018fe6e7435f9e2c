/- What a line says, taken by the parser; the map of a unit's lists. -/
import Derived.Test.YtmnohaefklglfaaDoorUn4
namespace Go.Proofs.YtmnohaefklglfaaDoor
open Go.RowKit
open Go.ChangeMaps (setBlock)
set_option linter.unusedVariables false
set_option linter.unusedSimpArgs false
set_option maxRecDepth 100000

section
variable {W0 : Base} {w0 w w' : World} {K K' : Blocks} {L : List Rw} {ub mb pb b : Nat} {u : UD}
theorem retry_u (h : PU w0 K ub mb pb u w) (r : List UInt8) :
    Calls Tryd.prog 28 #[.pointer (some ⟨pb, 0, none⟩), .string (toB r)] w fun e w' => e = .returned (.int .i64 (retryU u r).2) ∧ PU w0 K ub mb pb (retryU u r).1 w' := by
  unfold retryU
  cases hd : digitU r with
  | none => exact retry_no h (toB r) hd
  | some d =>
    refine (retry_yes h (toB r) d hd).mono fun e w' hh => ?_
    simp only
    cases hs : u.retry.isSome
    · rw [hs] at hh; exact hh
    · rw [hs] at hh; exact hh
theorem pref_remark (l : List UInt8) (h : l ≠ []) : Lib.hasPrefix l [35] = decide (l.head? = some 35) := by
  cases l with
  | nil => exact absurd rfl h
  | cons c l =>
    simp [Lib.hasPrefix, List.isPrefixOf]
    by_cases hc : c = 35
    · simp [hc]
    · simp [hc, Ne.symm hc]
theorem link_u (hm : Mx w0) (h : PU w0 K ub mb pb u w) (ho : UOk u) (x r : List UInt8) (hr : r.length ≤ 1000000) :
    Calls Tryd.prog 29 #[.pointer (some ⟨pb, 0, none⟩), .string (toB x), .string (toB r)] w fun e w' => e = .returned (.int .i64 (pickU u x r).2) ∧ PU w0 K ub mb pb (pickU u x r).1 w' := by
  unfold pickU
  cases hx : wordAt x with
  | none => exact link_no h x r hx
  | some k => exact link_yes hm h x r hr k hx (ho.each k (findW_lt hx).1).2.2
theorem beq_eqs {x l : List UInt8} : ((toB x).toList == l) = decide (x = l) := by
  rw [toList_toB, Bool.eq_iff_iff, beq_iff_eq, decide_eq_true_iff]
theorem cutL_len (l : List UInt8) : (cutL l).2.length ≤ l.length := by
  induction l with
  | nil => simp [cutL]
  | cons c l ih =>
    unfold cutL
    split
    · simp
    · simp; omega
set_option maxHeartbeats 4000000 in
theorem line_u (hm : Mx w0) (h : PU w0 K ub mb pb u w) (ho : UOk u) (l : List UInt8) (hl : l.length ≤ 1000000) :
    Calls Tryd.prog 17 #[.pointer (some ⟨pb, 0, none⟩), .string (toB l)] w fun e w' => e = .returned (.int .i64 (stepU u l).2) ∧ PU w0 K ub mb pb (stepU u l).1 w' := by
  unfold stepU
  by_cases h0 : l = []
  · rw [if_pos (.inl h0)]
    have hs : (toB l).toList.isEmpty = true := by rw [toList_toB, h0]; rfl
    have H := Lib.hid h
    clear h h0 hl
    generalize toB l = s at *
    go_enter Tryd.func17, Tryd.ntmps17
    go_wp2_with fail
    go_ret
    exact ⟨rfl, H.out⟩
  have hs : (toB l).toList.isEmpty = false := by rw [toList_toB]; simpa using h0
  have hpr := (Tryd.strings_HasPrefix (toB l) ⟨#[35]⟩ w).mono (R' := fun e w' => e = .returned (.bool (decide (l.head? = some 35))) ∧ w = w') fun e w' hh => ⟨by rw [hh.1, pref_remark _ h0], hh.2.symm⟩
  by_cases h1 : l.head? = some 35
  · rw [if_pos (.inr h1)]
    rw [decide_eq_true h1] at hpr
    have H := Lib.hid h
    clear h h0 hl h1
    generalize toB l = s at *
    go_enter Tryd.func17, Tryd.ntmps17
    go_wp2_with fail
    refine hpr.mono ?_
    rintro e w2 ⟨rfl, rfl⟩
    clear hpr
    go_wp2_with fail
    go_ret
    exact ⟨rfl, H.out⟩
  rw [if_neg (by rintro (e | e); exact h0 e; exact h1 e)]
  rw [decide_eq_false h1] at hpr
  obtain ⟨_, mx, hmx⟩ := hm.later h.below
  have hcut := (Tryd.strings_Cut (toB l) ⟨#[32]⟩ mx w (by rw [toB_size]; omega) hmx).mono (R' := fun e w' => (∃ bf : Bool, e = .returned (.tuple #[.string (toB (cutL l).1), .string (toB (cutL l).2), .bool bf])) ∧ ∃ n, w' = w.drewN n) fun e w' hh => by
    have hc := cut_any l
    have e1 : (Lib.cut (toB l).data.toList (⟨#[32]⟩ : ByteArray).data.toList).1 = (cutL l).1 := hc.1
    have e2 : (Lib.cut (toB l).data.toList (⟨#[32]⟩ : ByteArray).data.toList).2.1 = (cutL l).2 := hc.2
    obtain ⟨q1, q2⟩ := hh
    rw [e1, e2] at q1
    exact ⟨⟨_, q1⟩, q2⟩
  have hrl := cutL_len l
  unfold lineU
  generalize (cutL l).1 = x at *
  generalize (cutL l).2 = r at *
  have hr : r.length ≤ 1000000 := by omega
  have H := Lib.hid h
  have HM := Lib.hid hm
  have HO := Lib.hid ho
  have HR := Lib.hid hr
  have k1 : ((toB x).toList == [117, 110, 105, 116]) = decide (x = wUnit) := beq_eqs
  have k2 : ((toB x).toList == [114, 101, 116, 114, 121]) = decide (x = wRetry) := beq_eqs
  clear h h0 hl h1 hrl hr hmx hm ho
  generalize toB l = s at *
  by_cases hu : x = wUnit
  · rw [if_pos hu]
    rw [decide_eq_true hu] at k1
    clear hu k2
    go_enter Tryd.func17, Tryd.ntmps17
    go_wp2_with fail
    refine hpr.mono ?_
    rintro e w2 ⟨rfl, rfl⟩
    clear hpr
    go_wp2_with fail
    refine hcut.mono ?_
    rintro e w2 ⟨⟨bf, rfl⟩, n, rfl⟩
    clear hcut
    have hnm := name_u (H.out.later (below_drewN w n)) r HR.out
    generalize toB x = xs at *
    generalize toB r = rs at *
    go_wp2_with fail
    refine hnm.mono ?_
    rintro e w3 ⟨rfl, h3⟩
    have H3 := Lib.hid h3
    clear hnm h3
    go_wp2_with fail
    go_ret
    exact ⟨rfl, H3.out⟩
  rw [if_neg hu]
  rw [decide_eq_false hu] at k1
  by_cases hv : x = wRetry
  · rw [if_pos hv]
    rw [decide_eq_true hv] at k2
    clear hu hv
    go_enter Tryd.func17, Tryd.ntmps17
    go_wp2_with fail
    refine hpr.mono ?_
    rintro e w2 ⟨rfl, rfl⟩
    clear hpr
    go_wp2_with fail
    refine hcut.mono ?_
    rintro e w2 ⟨⟨bf, rfl⟩, n, rfl⟩
    clear hcut
    have hnm := retry_u (H.out.later (below_drewN w n)) r
    generalize toB x = xs at *
    generalize toB r = rs at *
    go_wp2_with fail
    refine hnm.mono ?_
    rintro e w3 ⟨rfl, h3⟩
    have H3 := Lib.hid h3
    clear hnm h3
    go_wp2_with fail
    go_ret
    exact ⟨rfl, H3.out⟩
  · rw [if_neg hv]
    rw [decide_eq_false hv] at k2
    clear hu hv
    go_enter Tryd.func17, Tryd.ntmps17
    go_wp2_with fail
    refine hpr.mono ?_
    rintro e w2 ⟨rfl, rfl⟩
    clear hpr
    go_wp2_with fail
    refine hcut.mono ?_
    rintro e w2 ⟨⟨bf, rfl⟩, n, rfl⟩
    clear hcut
    have hnm := link_u HM.out (H.out.later (below_drewN w n)) HO.out x r HR.out
    generalize toB x = xs at *
    generalize toB r = rs at *
    go_wp2_with fail
    refine hnm.mono ?_
    rintro e w3 ⟨rfl, h3⟩
    have H3 := Lib.hid h3
    clear hnm h3
    go_wp2_with fail
    go_ret
    exact ⟨rfl, H3.out⟩
end
end Go.Proofs.YtmnohaefklglfaaDoor
