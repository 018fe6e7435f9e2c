/- 'DiskPlans': for whatever numbers the law returns true, and writes nothing that was there. -/
import Derived.Test.YthmcdmnjjofehaaDAlive
import Derived.LoopTactic
namespace Go.Proofs.Ythmcdmnjjofehaa
open Go.RowKit
set_option linter.unusedVariables false
set_option linter.unusedSimpArgs false

theorem and_mask (q : Int) (c : Nat) (hc : c < 4294967296) : ∃ m : Nat, bits .and .i64 q (c : Int) = (m : Int) ∧ m ≤ c := by
  refine ⟨((BitVec.ofInt 64 q) &&& BitVec.ofInt 64 (c : Int)).toNat, ?_, ?_⟩
  · show IntKind.i64.wrap ((BitVec.ofInt 64 q &&& BitVec.ofInt 64 (c : Int)).toNat : Int) = _
    have h : ((BitVec.ofInt 64 q) &&& BitVec.ofInt 64 (c : Int)).toNat ≤ c := by
      rw [BitVec.toNat_and, BitVec.ofInt_natCast, BitVec.toNat_ofNat, Nat.mod_eq_of_lt (by omega)]; exact Nat.and_le_right
    exact IntWalk.i64_in _ (by omega)
  · rw [BitVec.toNat_and, BitVec.ofInt_natCast, BitVec.toNat_ofNat, Nat.mod_eq_of_lt (by omega)]; exact Nat.and_le_right

/-- What a write makes of a disk of four sectors with power. -/
theorem write_plan (D : Dk) (hd : D.down = false) (hl : D.last.length = 4) (i : Nat) (hi : i < 4) (s : List Value) (hs : isSec s) (hok : D.Ok) :
    (writeM D i s).1.last.length = 4 ∧ (writeM D i s).1.steps = D.steps + 1 ∧ (writeM D i s).1.since.length ≤ D.since.length + 1 ∧ (writeM D i s).1.left = (if D.left = 1 then 0 else if D.left = 0 then 0 else D.left - 1) ∧ (writeM D i s).2 = (if D.left = 1 then 3 else 0) ∧ (writeM D i s).1.down = decide (D.left = 1) ∧ (writeM D i s).1.keeps = (if D.left = 1 then 0 else D.keeps) := by
  have hr : refusedM D i = 0 := by
    unfold refusedM
    rw [hd, hl, if_neg (by decide), if_neg (by omega)]
  have h0 := hok.left0
  have e : writeM D i s = stepM (putM D i s) := by unfold writeM; rw [if_neg (by simpa using hr), Int.toNat_natCast]
  have hpl : (putM D i s).last.length = 4 := by show (D.last.set i s).length = 4; rw [List.length_set, hl]
  have hps : (putM D i s).since.length = D.since.length + 1 := by show (D.since ++ [(i, s)]).length = _; simp
  rw [e]
  unfold stepM
  have hpf : (putM D i s).left = D.left := rfl
  have hpd : (putM D i s).down = false := hd
  by_cases c0 : D.left = 0
  · rw [hpf, if_pos c0]
    refine ⟨hpl, rfl, by show (putM D i s).since.length ≤ _; omega, ?_, ?_, ?_, ?_⟩
    · rw [if_neg (by omega), if_pos c0]; exact hpf.trans c0
    · rw [if_neg (by omega)]
    · rw [decide_eq_false (by omega)]; exact hpd
    · rw [if_neg (by omega)]; rfl
  · rw [hpf, if_neg c0]
    by_cases c1 : 0 < D.left - 1
    · simp only
      rw [if_pos c1]
      refine ⟨hpl, rfl, by show (putM D i s).since.length ≤ _; omega, ?_, ?_, ?_, ?_⟩
      · rw [if_neg (by omega), if_neg c0]
      · rw [if_neg (by omega)]
      · rw [decide_eq_false (by omega)]; exact hpd
      · rw [if_neg (by omega)]; rfl
    · have c2 : D.left = 1 := by omega
      simp only
      rw [if_neg c1]
      refine ⟨?_, rfl, Nat.zero_le _, ?_, ?_, ?_, ?_⟩
      · show (lastTo _ _ _).length = 4; rw [lastTo_length]; exact hpl
      · rw [if_pos c2]; rfl
      · rw [if_pos c2]
      · rw [decide_eq_true c2]; rfl
      · rw [if_pos c2]; rfl

def PlanInv (D : Dk) (N : Int) (i : Nat) : Prop :=
  D.down = false ∧ D.last.length = 4 ∧ D.left = (if N < 1 then 0 else N - ((i : Int) - 1)) ∧ 1 ≤ i ∧ i ≤ 41 ∧ (1 ≤ N → (i : Int) ≤ N) ∧ D.steps ≤ 100 + (i : Int) ∧ D.since.length ≤ 100 + i
def PlanAt (w : World) (d : Nat) (N : Int) (t : Value) (wr : World) : Prop := ∃ (i : Nat) (D : Dk), t = .int .i64 i ∧ DkAt w wr d D [] ∧ PlanInv D N i
/-- The writes ahead of the second plan. -/
def FirstAt (w : World) (d : Nat) (N : Int) (c : Int) (t : Value) (wr : World) : Prop := ∃ (i : Nat) (D : Dk), t = .int .i64 i ∧ ((i : Int) ≤ c ∨ i = 0) ∧ DkAt w wr d D [] ∧ D.down = false ∧ D.last.length = 4 ∧ D.left = N - (i : Int) ∧ D.steps = (i : Int) ∧ D.since.length ≤ i

set_option maxHeartbeats 6400000 in
set_option maxRecDepth 100000 in
theorem plans_any (n again keeps : Int) (w : World) (hn : (Lit.int .i64 n).wf = true) (ha : (Lit.int .i64 again).wf = true) (hk : (Lit.int .u64 keeps).wf = true) :
    Calls Try.prog 6 #[.int .i64 n, .int .i64 again, .int .u64 keeps] w fun e w' => e = .returned (.bool true) ∧ Below w.heap.size w w' := by
  have hu1 : IntKind.u64.min = 0 := rfl
  have hu2 : IntKind.u64.max = 18446744073709551615 := rfl
  have hi1 : IntKind.i64.min = -9223372036854775808 := rfl
  have hi2 : IntKind.i64.max = 9223372036854775807 := rfl
  simp only [Lit.wf, Bool.and_eq_true, decide_eq_true_eq] at hn ha hk
  have hk0 : 0 ≤ keeps := by omega
  have hk1 : keeps < 18446744073709551616 := by omega
  have hn1 : n ≤ 9223372036854775807 := by omega
  have hn0 : -9223372036854775808 ≤ n := by omega
  clear hu1 hu2 hi1 hi2 hn ha hk
  obtain ⟨N, hN⟩ : ∃ N, max 0 n = N := ⟨_, rfl⟩
  have hNa : (if 0 < n then n else 0) = N := by omega
  have hNb : (if n < 0 then 0 else n) = N := by omega
  have hNc : (if n ≤ 0 then 0 else n) = N := by omega
  have hNd : (if 0 ≤ n then n else 0) = N := by omega
  have hN0 : 0 ≤ N := by omega
  have hN1 : N ≤ 9223372036854775807 := by omega
  obtain ⟨m1, hm1, hm1b⟩ := and_mask again 1 (by decide)
  have hm1 : bits BinOp.and IntKind.i64 again 1 = (m1 : Int) := hm1
  obtain ⟨m7, hm7, hm7b⟩ := and_mask (again / 2) 7 (by decide)
  have hm7 : bits BinOp.and IntKind.i64 (again / 2) 7 = (m7 : Int) := hm7
  obtain ⟨mf, hmf, hmfb⟩ := and_mask (again / 16) 15 (by decide)
  have hmf : bits BinOp.and IntKind.i64 (again / 16) 15 = (mf : Int) := hmf
  have hl0 : (planM (newM 4) n keeps).left = N := by show max n 0 = N; omega
  have Hl0 := Lib.hid hl0
  clear hl0
  by_cases ho : m1 = 1
  · subst ho
    go_enter Try.func6, Try.ntmps6
    go_wp2_with (go_at_call 7; refine (alive_any _).mono ?_; rintro e w1 ⟨rfl, hb1⟩)
    refine (new_pos w w1 [] 4 (Own.of_below hb1) (by decide) (by decide)).mono ?_
    rintro e w2 ⟨d, rfl, hA⟩
    go_wp2_with fail
    refine (plan_any w w2 d (newM 4) [] n keeps hA hn1 hk0 hk1).mono ?_
    rintro e w3 ⟨rfl, hA⟩
    obtain ⟨c, hc⟩ : ∃ c, min (N - 1) (m7 : Int) = c := ⟨_, rfl⟩
    have hfirst := Lib.hid (show FirstAt w d N c (.int .i64 0) w3 from ⟨0, _, rfl, .inr rfl, hA, rfl, rfl, by rw [Hl0.out]; simp, rfl, Nat.le_refl _⟩)
    have hca : (if (m7 : Int) < N - 1 then (m7 : Int) else N - 1) = c := by omega
    have hcb : (if N - 1 < (m7 : Int) then N - 1 else (m7 : Int)) = c := by omega
    have hcc : (if N - 1 ≤ (m7 : Int) then N - 1 else (m7 : Int)) = c := by omega
    have hc1 : c ≤ 7 := by omega
    have hc2 : c ≤ N - 1 := by omega
    have hc3 : -1 ≤ c := by omega
    clear hA
    go_wp2_with fail
    go_loopw [28] (fun t wr => FirstAt w d N c t wr) (fun t _ => 8 - (intOf t).toNat)
    case atStart => exact hfirst.out
    case round =>
      obtain ⟨i, D, rfl, hic, hA, hdn, hl4, hlf, hst, hsi⟩ := hrel
      have hi7 : i ≤ 7 := by omega
      by_cases hlt : (i : Int) < c
      · have hW := write_plan D hdn hl4 0 (by decide) (secB 1) (secB_sec _) hA.ok
        simp only [Int.natCast_zero] at hW
        have hnot : ¬ D.left = 1 := by omega
        have hnot0 : ¬ D.left = 0 := by omega
        obtain ⟨W1, W2, W3, W4, W5, W6, W7⟩ := hW
        rw [if_neg hnot] at W5
        rw [decide_eq_false hnot] at W6
        rw [if_neg hnot, if_neg hnot0] at W4
        have hnext := Lib.hid (show ((i : Int) + 1 ≤ c) ∧ (writeM D 0 (secB 1)).1.down = false ∧ (writeM D 0 (secB 1)).1.last.length = 4 ∧ (writeM D 0 (secB 1)).1.left = N - ((i : Int) + 1) ∧ (writeM D 0 (secB 1)).1.steps = (i : Int) + 1 ∧ (writeM D 0 (secB 1)).1.since.length ≤ i + 1 from
          ⟨by omega, W6, W1, by omega, by omega, by omega⟩)
        have HA := Lib.hid hA
        have Hsec := Lib.hid (secB_sec 1)
        have hb1' := built_secB 1
        have Hst := Lib.hid (show D.steps < 9223372036854775807 by omega)
        have Hsi := Lib.hid (show D.since.length < 1000000 by omega)
        clear W1 W2 W3 W4 W5 W6 W7 hnot hnot0 hA hdn hl4 hlf hst hsi hic
        go_wp2_with (refine wpList_build rfl 39 _ rfl [(0, .int .u8 1)] rfl _ hb1' ?_)
        refine (write_any w wr d D [] 0 (secB 1) HA.out Hsec.out Hst.out Hsi.out).mono ?_
        rintro e w4 ⟨rfl, hA4⟩
        have HA4 := Lib.hid hA4
        clear hA4
        go_wp2_with fail
        go_roundw
        case rel => exact ⟨i + 1, _, by go_num, .inl (by have := hnext.out.1; omega), HA4.out, hnext.out.2.1, hnext.out.2.2.1, by have := hnext.out.2.2.2.1; omega, by have := hnext.out.2.2.2.2.1; omega, hnext.out.2.2.2.2.2⟩
        case measure => simp [intOf]; omega
      · have hN1' : (1 : Int) + (mf : Int) ≤ 16 := by omega
        have hlen := Lib.hid (show i ≤ 7 ∧ D.last.length = 4 ∧ D.steps = (i : Int) ∧ D.since.length ≤ i ∧ D.down = false from ⟨hi7, hl4, hst, hsi, hdn⟩)
        have HA := Lib.hid hA
        clear hA hl4 hlf hst hsi hic
        go_wp2_with (go_at_call 18; refine (down_any w wr d D [] HA.out).mono ?_; rintro e w' ⟨rfl, rfl⟩)
        refine (plan_any w wr d D [] (1 + (mf : Int)) keeps HA.out (by omega) hk0 hk1).mono ?_
        rintro e w5 ⟨rfl, hA5⟩
        clear hN hNa hNb hNc hNd hN0 hN1 Hl0 hfirst hc hca hcb hcc hc1 hc2 hc3
        obtain ⟨N, hN⟩ : ∃ N : Int, 1 + (mf : Int) = N := ⟨_, rfl⟩
        have hN0 : 0 ≤ N := by omega
        have hN1 : N ≤ 9223372036854775807 := by omega
        have hstart := Lib.hid (show PlanAt w d N (.int .i64 1) w5 from ⟨1, _, rfl, hA5, hlen.out.2.2.2.2, hlen.out.2.1, by show max (1 + (mf : Int)) 0 = _; rw [if_neg (by omega)]; omega, by decide, by decide, by omega, by have := hlen.out.2.2.1; have := hlen.out.1; show D.steps ≤ _; omega, by have := hlen.out.2.2.2.1; have := hlen.out.1; show D.since.length ≤ _; omega⟩)
        clear hA5 HA hlen
        go_wp2_with fail

        go_loopw [8] (fun t wr => PlanAt w d N t wr) (fun t _ => 41 - (intOf t).toNat)
        case atStart => exact hstart.out
        case round =>
          obtain ⟨i, D, rfl, hA, hP⟩ := hrel
          obtain ⟨hdn, hl4, hlf, hi1, hi41, hiN, hst, hsi⟩ := hP
          obtain ⟨mk, hmk, hmk3⟩ := and_mask (i : Int) 3 (by decide)
          have hmk' : bits BinOp.and IntKind.i64 (i : Int) 3 = (mk : Int) := hmk
          by_cases hle : i ≤ 40
          · have hW := Lib.hid (write_plan D hdn hl4 mk (by omega) (secB (i : Int)) (secB_sec _) hA.ok)
            have Hsec := Lib.hid (secB_sec (i : Int))
            have hbk := built_secB (i : Int)
            have HA := Lib.hid hA
            have Hst := Lib.hid (show D.steps < 9223372036854775807 by omega)
            have Hsi := Lib.hid (show D.since.length < 1000000 by omega)
            have Hd := Lib.hid (show (writeM D mk (secB (i : Int))).2 = if D.left = 1 then 3 else 0 from hW.out.2.2.2.2.1)
            have Hw := Lib.hid (show (writeM D mk (secB (i : Int))).1.down = decide (D.left = 1) from hW.out.2.2.2.2.2.1)
            have H1 := Lib.hid hW.out.1
            have H2 := Lib.hid hW.out.2.1
            have H3 := Lib.hid hW.out.2.2.1
            have H4 := Lib.hid hW.out.2.2.2.1
            by_cases hN : N < 1
            · exfalso; omega
            · have hlf' : D.left = N - ((i : Int) - 1) := by rw [hlf, if_neg hN]
              have hiN' := hiN (by omega)
              by_cases hk : (i : Int) < N
              · have hnot : ¬ D.left = 1 := by omega
                have hle0 : ¬ D.left = 0 := by omega
                rw [if_neg hnot] at Hd
                rw [decide_eq_false hnot] at Hw
                have hinv : PlanInv (writeM D mk (secB (i : Int))).1 N (i + 1) := ⟨Hw.out, H1.out, by rw [H4.out, if_neg hN]; omega, by omega, by omega, by omega, by have := H2.out; omega, by have := H3.out; omega⟩
                have HI := Lib.hid hinv
                clear hmk hlf hlf' hnot hle0 hinv hA hW hdn hl4 hst hsi hiN
                go_wp2_with (refine wpList_build rfl 39 _ rfl [(0, .int .u8 (i : Int))] rfl _ hbk ?_)
                refine (write_any w wr d D [] (mk : Int) (secB (i : Int)) HA.out Hsec.out Hst.out Hsi.out).mono ?_
                rintro e w2 ⟨rfl, hA2⟩
                rw [Hd.out]
                have HA2 := Lib.hid hA2
                have hdw := Hw.out
                clear hA2
                go_wp2_with (go_at_call 18; refine (down_any w w2 d _ [] HA2.out).mono ?_; rintro e w' ⟨rfl, rfl⟩)
                go_roundw
                case rel => exact ⟨i + 1, _, by go_num, HA2.out, HI.out⟩
                case measure => simp [intOf]; omega
              · have hyes : D.left = 1 := by omega
                rw [if_pos hyes] at Hd
                rw [decide_eq_true hyes] at Hw
                clear hmk hlf hlf' hyes hA hW hdn hl4 hst hsi hiN
                go_wp2_with (refine wpList_build rfl 39 _ rfl [(0, .int .u8 (i : Int))] rfl _ hbk ?_)
                refine (write_any w wr d D [] (mk : Int) (secB (i : Int)) HA.out Hsec.out Hst.out Hsi.out).mono ?_
                rintro e w2 ⟨rfl, hA2⟩
                rw [Hd.out]
                have HA2 := Lib.hid hA2
                have hdw := Hw.out
                have hbw := hA2.below
                clear hA2
                go_wp2_with (go_at_call 18; refine (down_any w w2 d _ [] HA2.out).mono ?_; rintro e w' ⟨rfl, rfl⟩)
                go_ret
                exact ⟨rfl, hbw⟩
          · obtain rfl : i = 41 := by omega
            have hbw := hA.below
            clear hmk hlf hA hdn hl4 hst hsi hiN
            go_wp2_with fail
            go_ret
            exact ⟨rfl, hbw⟩
  · have hm0 : m1 = 0 := by omega
    subst hm0
    go_enter Try.func6, Try.ntmps6
    go_wp2_with (go_at_call 7; refine (alive_any _).mono ?_; rintro e w1 ⟨rfl, hb1⟩)
    refine (new_pos w w1 [] 4 (Own.of_below hb1) (by decide) (by decide)).mono ?_
    rintro e w2 ⟨d, rfl, hA⟩
    go_wp2_with fail
    refine (plan_any w w2 d (newM 4) [] n keeps hA hn1 hk0 hk1).mono ?_
    rintro e w3 ⟨rfl, hA⟩
    have hstart := Lib.hid (show PlanAt w d N (.int .i64 1) w3 from ⟨1, _, rfl, hA, rfl, rfl, by rw [Hl0.out]; split <;> omega, by decide, by decide, by omega, (by decide : (0 : Int) ≤ 100 + 1), Nat.zero_le _⟩)
    clear hA
    go_wp2_with fail

    go_loopw [8] (fun t wr => PlanAt w d N t wr) (fun t _ => 41 - (intOf t).toNat)
    case atStart => exact hstart.out
    case round =>
      obtain ⟨i, D, rfl, hA, hP⟩ := hrel
      obtain ⟨hdn, hl4, hlf, hi1, hi41, hiN, hst, hsi⟩ := hP
      obtain ⟨mk, hmk, hmk3⟩ := and_mask (i : Int) 3 (by decide)
      have hmk' : bits BinOp.and IntKind.i64 (i : Int) 3 = (mk : Int) := hmk
      by_cases hle : i ≤ 40
      · have hW := Lib.hid (write_plan D hdn hl4 mk (by omega) (secB (i : Int)) (secB_sec _) hA.ok)
        have Hsec := Lib.hid (secB_sec (i : Int))
        have hbk := built_secB (i : Int)
        have HA := Lib.hid hA
        have Hst := Lib.hid (show D.steps < 9223372036854775807 by omega)
        have Hsi := Lib.hid (show D.since.length < 1000000 by omega)
        have Hd := Lib.hid (show (writeM D mk (secB (i : Int))).2 = if D.left = 1 then 3 else 0 from hW.out.2.2.2.2.1)
        have Hw := Lib.hid (show (writeM D mk (secB (i : Int))).1.down = decide (D.left = 1) from hW.out.2.2.2.2.2.1)
        have H1 := Lib.hid hW.out.1
        have H2 := Lib.hid hW.out.2.1
        have H3 := Lib.hid hW.out.2.2.1
        have H4 := Lib.hid hW.out.2.2.2.1
        by_cases hN : N < 1
        · have hlf' : D.left = 0 := by rw [hlf, if_pos hN]
          have hnot : ¬ D.left = 1 := by omega
          rw [if_neg hnot] at Hd
          rw [decide_eq_false hnot] at Hw
          have hinv : PlanInv (writeM D mk (secB (i : Int))).1 N (i + 1) := ⟨Hw.out, H1.out, by rw [H4.out, if_neg hnot, if_pos hN]; omega, by omega, by omega, by omega, by have := H2.out; omega, by have := H3.out; omega⟩
          have HI := Lib.hid hinv
          have g1 : ((0 : Int) == 0) = true := rfl
          clear hmk hlf hlf' hnot hinv hA hW hdn hl4 hst hsi
          go_wp2_with (refine wpList_build rfl 39 _ rfl [(0, .int .u8 (i : Int))] rfl _ hbk ?_)
          refine (write_any w wr d D [] (mk : Int) (secB (i : Int)) HA.out Hsec.out Hst.out Hsi.out).mono ?_
          rintro e w2 ⟨rfl, hA2⟩
          rw [Hd.out]
          have HA2 := Lib.hid hA2
          have hdw := Hw.out
          clear hA2
          go_wp2_with (go_at_call 18; refine (down_any w w2 d _ [] HA2.out).mono ?_; rintro e w' ⟨rfl, rfl⟩)
          go_roundw
          case rel => exact ⟨i + 1, _, by go_num, HA2.out, HI.out⟩
          case measure => simp [intOf]; omega
        · have hlf' : D.left = N - ((i : Int) - 1) := by rw [hlf, if_neg hN]
          have hiN' := hiN (by omega)
          by_cases hk : (i : Int) < N
          · have hnot : ¬ D.left = 1 := by omega
            have hle0 : ¬ D.left = 0 := by omega
            rw [if_neg hnot] at Hd
            rw [decide_eq_false hnot] at Hw
            have hinv : PlanInv (writeM D mk (secB (i : Int))).1 N (i + 1) := ⟨Hw.out, H1.out, by rw [H4.out, if_neg hN]; omega, by omega, by omega, by omega, by have := H2.out; omega, by have := H3.out; omega⟩
            have HI := Lib.hid hinv
            clear hmk hlf hlf' hnot hle0 hinv hA hW hdn hl4 hst hsi hiN
            go_wp2_with (refine wpList_build rfl 39 _ rfl [(0, .int .u8 (i : Int))] rfl _ hbk ?_)
            refine (write_any w wr d D [] (mk : Int) (secB (i : Int)) HA.out Hsec.out Hst.out Hsi.out).mono ?_
            rintro e w2 ⟨rfl, hA2⟩
            rw [Hd.out]
            have HA2 := Lib.hid hA2
            have hdw := Hw.out
            clear hA2
            go_wp2_with (go_at_call 18; refine (down_any w w2 d _ [] HA2.out).mono ?_; rintro e w' ⟨rfl, rfl⟩)
            go_roundw
            case rel => exact ⟨i + 1, _, by go_num, HA2.out, HI.out⟩
            case measure => simp [intOf]; omega
          · have hyes : D.left = 1 := by omega
            rw [if_pos hyes] at Hd
            rw [decide_eq_true hyes] at Hw
            clear hmk hlf hlf' hyes hA hW hdn hl4 hst hsi hiN
            go_wp2_with (refine wpList_build rfl 39 _ rfl [(0, .int .u8 (i : Int))] rfl _ hbk ?_)
            refine (write_any w wr d D [] (mk : Int) (secB (i : Int)) HA.out Hsec.out Hst.out Hsi.out).mono ?_
            rintro e w2 ⟨rfl, hA2⟩
            rw [Hd.out]
            have HA2 := Lib.hid hA2
            have hdw := Hw.out
            have hbw := hA2.below
            clear hA2
            go_wp2_with (go_at_call 18; refine (down_any w w2 d _ [] HA2.out).mono ?_; rintro e w' ⟨rfl, rfl⟩)
            go_ret
            exact ⟨rfl, hbw⟩
      · obtain rfl : i = 41 := by omega
        have hbw := hA.below
        clear hmk hlf hA hdn hl4 hst hsi hiN
        go_wp2_with fail
        go_ret
        exact ⟨rfl, hbw⟩
end Go.Proofs.Ythmcdmnjjofehaa
