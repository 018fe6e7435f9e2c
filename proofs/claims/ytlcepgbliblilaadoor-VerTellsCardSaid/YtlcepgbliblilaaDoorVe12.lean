/- The document's own answer for versions: Compare, Fits; the walk of VerTells. -/
import Derived.Test.YtlcepgbliblilaaDoorVe11
namespace Go.Proofs.YtlcepgbliblilaaDoor
open Go.RowKit
set_option linter.unusedVariables false
set_option linter.unusedSimpArgs false
set_option maxRecDepth 100000

def sgn (n : Int) : Int := if n < 0 then -1 else if 0 < n then 1 else 0
theorem sgn_neg {n : Int} (h : n < 0) : sgn n = -1 := if_pos h
theorem sgn_pos {n : Int} (h : 0 < n) : sgn n = 1 := by unfold sgn; rw [if_neg (by omega), if_pos h]
theorem sgn_zero : sgn 0 = 0 := rfl
theorem sgn_sub (a b : Nat) : sgn ((a : Int) - b) = cmpN a b := by
  rcases cmpN_ways a b with ⟨h, e⟩ | ⟨h, e⟩ | ⟨h, e⟩
  · rw [e, sgn_neg (by omega)]
  · rw [e, sgn_pos (by omega)]
  · rw [e, h, Int.sub_self]; rfl
theorem sgn_any (n : Int) (w : World) : Calls Tryd.prog 18 #[.int .i64 n] w fun e w' => e = .returned (.int .i64 (sgn n)) ∧ w = w' := by
  by_cases h1 : n < 0
  · rw [sgn_neg h1]
    go_enter Tryd.func18, Tryd.ntmps18
    go_wp2_with fail
    go_ret
    exact ⟨rfl, rfl⟩
  · by_cases h2 : 0 < n
    · rw [sgn_pos h2]
      go_enter Tryd.func18, Tryd.ntmps18
      go_wp2_with fail
      go_ret
      exact ⟨rfl, rfl⟩
    · obtain rfl : n = 0 := by omega
      rw [sgn_zero]
      go_enter Tryd.func18, Tryd.ntmps18
      go_wp2_with fail
      go_ret
      exact ⟨rfl, rfl⟩
theorem nums_no {l : List UInt8} (h : rightV l = false) : numsV l = [] ∧ revV l = 0 := by
  unfold numsV revV; rw [h]; exact ⟨rfl, rfl⟩
theorem nums_yes {l : List UInt8} (h : rightV l = true) : ∃ a x, numsV l = a :: x := by
  rw [rightV_nums] at h
  have h := of_decide_eq_true h
  cases hn : numsV l with
  | nil => rw [hn] at h; simp at h
  | cons a x => exact ⟨a, x, rfl⟩
theorem cmpV_no {l m : List UInt8} (h1 : rightV l = false) (h2 : rightV m = false) : cmpV l m = 0 := by
  unfold cmpV
  rw [(nums_no h1).1, (nums_no h2).1, (nums_no h1).2, (nums_no h2).2]; rfl
theorem cmpV_one {l m : List UInt8} (h1 : rightV l = true) (h2 : rightV m = false) : cmpV l m = 1 := by
  obtain ⟨a, x, e⟩ := nums_yes h1
  unfold cmpV
  rw [e, (nums_no h2).1]; rfl
theorem cmpV_two {l m : List UInt8} (h1 : rightV l = false) (h2 : rightV m = true) : cmpV l m = -1 := by
  rw [cmpV_anti, cmpV_one h2 h1]
set_option maxHeartbeats 8000000 in
theorem refcmp_any (s t : ByteArray) (w : World) (hs : s.size ≤ 1000) (ht : t.size ≤ 1000) : Calls Tryd.prog 10 #[.string s, .string t] w fun e w' => e = .returned (.int .i64 (cmpV s.data.toList t.data.toList)) ∧ Below w.heap.size w w' := by
  have HP := refparse_any s w hs
  have HQ := fun w1 => refparse_any t w1 ht
  generalize s.data.toList = l at *
  generalize t.data.toList = m at *
  go_enter Tryd.func10, Tryd.ntmps10
  go_wp2_with fail
  refine HP.mono ?_
  rintro e w2 ⟨v, ns, r, rfl, hO, hv⟩
  obtain ⟨a, c, hv2, _, _⟩ := Own.sized (h := (show Own w w2 (⟨3, 1, v, ns.length, ns.map fun (n : Nat) => Value.int .i64 (n : Int)⟩ :: []) from hO))
  subst hv2
  go_wp2_with fail
  refine (HQ w2).mono ?_
  rintro e w3 ⟨v3, ms, r3, rfl, hO3, hv3⟩
  obtain ⟨a3, c3, hv4, _, _⟩ := Own.sized (h := (show Own w2 w3 (⟨3, 1, v3, ms.length, ms.map fun (n : Nat) => Value.int .i64 (n : Int)⟩ :: []) from hO3))
  subst hv4
  have HO := Lib.hid (hO.join hO3)
  have HB := Lib.hid (hO.join hO3).below
  clear hO hO3 HP HQ
  obtain ⟨rl, hrl⟩ : ∃ r, rightV l = r := ⟨_, rfl⟩
  obtain ⟨rm, hrm⟩ : ∃ r, rightV m = r := ⟨_, rfl⟩
  rw [hrl] at hv ⊢
  rw [hrm] at hv3 ⊢
  cases rl with
  | false =>
    cases rm with
    | false =>
      have HZ := Lib.hid (cmpV_no hrl hrm)
      clear hrl hrm hv hv3
      go_wp2_with fail
      go_ret
      exact ⟨by rw [HZ.out]; rfl, HB.out⟩
    | true =>
      have HZ := Lib.hid (cmpV_two hrl hrm)
      clear hrl hrm hv hv3
      go_wp2_with fail
      go_ret
      exact ⟨by rw [HZ.out]; rfl, HB.out⟩
  | true =>
    cases rm with
    | false =>
      have HZ := Lib.hid (cmpV_one hrl hrm)
      clear hrl hrm hv hv3
      go_wp2_with fail
      go_ret
      exact ⟨by rw [HZ.out]; rfl, HB.out⟩
    | true =>
      obtain ⟨rfl, rfl⟩ := hv rfl
      obtain ⟨rfl, rfl⟩ := hv3 rfl
      clear hv hv3 hrl hrm
      have hl4 := (numsV_le l).1
      have hm4 := (numsV_le m).1
      have hrl := revV_le l
      have hrm := revV_le m
      have n1 : NatsAt w3 (.slice a (numsV l).length c) (numsV l) := NatsAt.own HO.out (by simp [rowN])
      have n2 : NatsAt w3 (.slice a3 (numsV m).length c3) (numsV m) := NatsAt.own HO.out (by simp [rowN])
      have Hst := Lib.hid (show CmpRel (numsV l) (numsV m) (.int .i64 0) from ⟨0, rfl, Nat.zero_le _, Nat.zero_le _, by rw [List.drop_zero, List.drop_zero]⟩)
      have HV := Lib.hid (show cmpV l m = (if cmpL (numsV l) (numsV m) = 0 then cmpN (revV l) (revV m) else cmpL (numsV l) (numsV m)) from rfl)
      have HD := Lib.hid (sgn_sub (revV l) (revV m))
      clear HO
      obtain ⟨z, hz⟩ : ∃ z, cmpV l m = z := ⟨_, rfl⟩
      have Hz := Lib.hid hz
      rw [hz] at HV
      clear hz
      generalize numsV l = x at *
      generalize numsV m = y at *
      generalize revV l = i at *
      generalize revV m = j at *
      have Hst2 := Lib.hid (show CmpRel x y (.int .i64 0) ∧ Below w.heap.size w w3 ∧ NatsAt w3 (.slice a x.length c) x ∧ NatsAt w3 (.slice a3 y.length c3) y from ⟨Hst.out, HB.out, n1, n2⟩)
      clear Hst n1 n2 HB
      go_wp2_with fail
      go_loopw [11] (fun i wr => CmpRel x y i ∧ Below w.heap.size w wr ∧ NatsAt wr (.slice a x.length c) x ∧ NatsAt wr (.slice a3 y.length c3) y) (fun i _ => x.length - (intOf i).toNat)
      case atStart => exact Hst2.out
      case round =>
        obtain ⟨⟨k, rfl, hk1, hk2, hk⟩, hbw, m1, m2⟩ := hrel
        clear Hst2
        have HB := Lib.hid hbw
        have N1 := Lib.hid m1
        have N2 := Lib.hid m2
        obtain ⟨a', c', e1, hc⟩ := m1
        injection e1 with e1 _ e2
        subst e1 e2
        obtain ⟨b', d', e1, hd⟩ := m2
        injection e1 with e1 _ e2
        subst e1 e2
        clear hbw
        have Hk := Lib.hid hk
        clear hk
        by_cases h1 : k < x.length
        · by_cases h2 : k < y.length
          · obtain ⟨g1, o1, rfl, hc1⟩ := hc k h1
            obtain ⟨g2, o2, rfl, hc2⟩ := hd k h2
            have HA := Lib.hid (cmpL_at x y k h1 h2)
            clear hc hd
            rcases cmpN_ways x[k] y[k] with ⟨h3, h4⟩ | ⟨h3, h4⟩ | ⟨h3, h4⟩
            · have HZ := Lib.hid (show z = -1 by rw [HV.out, ← Hk.out, HA.out, if_neg (show ¬ x[k] = y[k] by omega), h4]; rfl)
              have h5 : (x[k] : Int) < y[k] := by omega
              clear h3 h4
              go_wp2_with fail
              go_region
              go_wp2_with fail
              go_ret
              exact ⟨by rw [Hz.out, HZ.out]; rfl, HB.out.drew⟩
            · have HZ := Lib.hid (show z = 1 by rw [HV.out, ← Hk.out, HA.out, if_neg (show ¬ x[k] = y[k] by omega), h4]; rfl)
              have h5 : ¬ (x[k] : Int) < y[k] := by omega
              have h6 : (y[k] : Int) < x[k] := by omega
              clear h3 h4
              go_wp2_with fail
              go_region
              go_wp2_with fail
              go_region
              go_wp2_with fail
              go_ret
              exact ⟨by rw [Hz.out, HZ.out]; rfl, HB.out.drew.drew⟩
            · have HZ := Lib.hid (show CmpRel x y (.int .i64 ((k + 1 : Nat) : Int)) from ⟨k + 1, rfl, h1, h2, by rw [← Hk.out, HA.out, if_pos h3]⟩)
              have h5 : ¬ (x[k] : Int) < y[k] := by omega
              have h6 : ¬ (y[k] : Int) < x[k] := by omega
              clear h3 h4
              go_wp2_with fail
              go_region
              go_wp2_with fail
              go_region
              go_wp2_with fail
              go_roundw
              case rel =>
                have e1 : (Value.int IntKind.i64 ((k : Int) + 1)) = .int .i64 ((k + 1 : Nat) : Int) := by go_num
                refine ⟨?_, HB.out.drew.drew, N1.out, N2.out⟩
                first | exact HZ.out | (rw [e1]; exact HZ.out)
              case measure => simp [intOf]; omega
          · have HZ := Lib.hid (show z = 1 by rw [HV.out, ← Hk.out, cmpL_end1 x y k h1 (by omega)]; rfl)
            have h3 : ¬ (k : Int) < y.length := by omega
            have h4 : ((x.length : Int) == (y.length : Int)) = false := beq_eq_false_iff_ne.2 (by omega)
            have hsg := sgn_any ((i : Int) - j) wr
            rw [HD.out] at hsg
            have hb := cmpN_sign i j
            have HS2 := fun q => Lib.hid (fun (hq : q = cmpN i j) => sgn_pos (n := ((x.length : Int) - y.length) * 10000 + q) (by omega))
            have hp : -1 ≤ cmpN i j ∧ cmpN i j ≤ 1 := by omega
            obtain ⟨hp1, hp2⟩ := hp
            have hs2 := sgn_any (((x.length : Int) - y.length) * 10000 + cmpN i j) wr
            rw [sgn_pos (by omega)] at hs2
            clear hb HS2 hc hd
            generalize cmpN i j = q at *
            obtain rfl : k = y.length := by omega
            go_wp2_with fail
            refine hsg.mono ?_
            rintro e w4 ⟨rfl, rfl⟩
            go_wp2_with fail
            refine hs2.mono ?_
            rintro e w4 ⟨rfl, rfl⟩
            go_wp2_with fail
            go_ret
            exact ⟨by rw [Hz.out, HZ.out]; rfl, HB.out⟩
        · obtain rfl : k = x.length := by omega
          have hsg := sgn_any ((i : Int) - j) wr
          rw [HD.out] at hsg
          have hb := cmpN_sign i j
          have hp : -1 ≤ cmpN i j ∧ cmpN i j ≤ 1 := by omega
          obtain ⟨hp1, hp2⟩ := hp
          by_cases h2 : x.length < y.length
          · have HZ := Lib.hid (show z = -1 by rw [HV.out, ← Hk.out, cmpL_end2 x y _ rfl h2]; rfl)
            have h4 : ((x.length : Int) == (y.length : Int)) = false := beq_eq_false_iff_ne.2 (by omega)
            have hs2 := sgn_any (((x.length : Int) - y.length) * 10000 + cmpN i j) wr
            rw [sgn_neg (by omega)] at hs2
            clear hb hc hd
            generalize cmpN i j = q at *
            go_wp2_with fail
            refine hsg.mono ?_
            rintro e w4 ⟨rfl, rfl⟩
            go_wp2_with fail
            refine hs2.mono ?_
            rintro e w4 ⟨rfl, rfl⟩
            go_wp2_with fail
            go_ret
            exact ⟨by rw [Hz.out, HZ.out]; rfl, HB.out⟩
          · have hle : x.length = y.length := by omega
            have HZ := Lib.hid (show z = cmpN i j by rw [HV.out, ← Hk.out, cmpL_end3 x y _ rfl hle]; rfl)
            have h4 : ((x.length : Int) == (y.length : Int)) = true := beq_iff_eq.2 (by omega)
            clear hb hc hd
            have hsg2 := hsg
            generalize cmpN i j = q at *
            have hle2 : (y.length : Int) = (x.length : Int) := by omega
            clear hle
            go_wp2_with fail
            refine hsg.mono ?_
            rintro e w4 ⟨rfl, rfl⟩
            go_wp2_with fail
            refine hsg2.mono ?_
            rintro e w4 ⟨rfl, rfl⟩
            go_wp2_with fail
            go_ret
            exact ⟨by rw [Hz.out, HZ.out]; rfl, HB.out⟩
end Go.Proofs.YtlcepgbliblilaaDoor
