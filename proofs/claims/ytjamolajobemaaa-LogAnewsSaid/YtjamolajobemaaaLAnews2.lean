/- 'LogAnews': for whatever lists, steps and bits, the law returns true, and writes nothing that was there. -/
import Derived.Test.YtjamolajobemaaaLAnews
namespace Go.Proofs.Ytjamolajobemaaa
open Go.RowKit
set_option linter.unusedVariables false
set_option linter.unusedSimpArgs false

def AnewRel (w : World) (d m : Nat) (hv t : Value) (wr : World) : Prop := ∃ (i : Nat) (D : Dk) (held : List (List Int)) (vs : List Value) (L : List Rw),
  i ≤ m ∧ t = .int .i64 i ∧ Shelf w wr d D held (6000 * i) L ∧ rowV hv vs ∈ L ∧ Lst L vs held ∧ held.length ≤ 8
theorem quot_in (k : Int) (h0 : 0 ≤ k) (h1 : k < 18446744073709551616) (m : Int) (hm : 0 ≤ m) : 0 ≤ k / m ∧ k / m < 18446744073709551616 :=
  ⟨Int.ediv_nonneg h0 hm, by have := Int.ediv_le_self m h0; omega⟩
theorem pow_in (n : Nat) : (0 : Int) ≤ 2 ^ n := Int.le_of_lt (Int.pow_pos (by decide))

set_option maxHeartbeats 6400000 in
set_option maxRecDepth 100000 in
theorem anews_any (a : Option Addr) (c : Nat) (TS : List (Option Addr × Nat × List (Value × List Int))) (b : Option Addr) (cb : Nat) (ss : List Int) (keeps : Int) (w : World) (hk : (Lit.int .u64 keeps).wf = true) (hT : Times w a TS) (hI : Ints w b ss) (hn : TS.length ≤ maxLen) (hn2 : ss.length ≤ maxLen) :
    Calls Try.prog 6 #[.slice a TS.length c, .slice b ss.length cb, .int .u64 keeps] w fun e w' => e = .returned (.bool true) ∧ Below w.heap.size w w' := by
  have hu1 : IntKind.u64.min = 0 := rfl
  have hu2 : IntKind.u64.max = 18446744073709551615 := rfl
  simp only [Lit.wf, Bool.and_eq_true, decide_eq_true_eq] at hk
  have hk0 : 0 ≤ keeps := by omega
  have hk1 : keeps < 18446744073709551616 := by omega
  have hn9 : TS.length < 9223372036854775808 := Nat.lt_of_le_of_lt hn (by unfold maxLen; decide)
  have hs9 : ss.length < 9223372036854775808 := Nat.lt_of_le_of_lt hn2 (by unfold maxLen; decide)
  clear hu1 hu2 hk hn hn2
  have HT := Lib.hid hT
  have HI := Lib.hid hI
  clear hT hI
  by_cases hbig : 30 < TS.length
  · have t1 : decide ((30 : Int) < (TS.length : Int)) = true := by simp; omega
    go_enter Try.func6, Try.ntmps6
    go_wp2_with (go_at_call 7; refine (alive_any _).mono ?_; rintro e w1 ⟨rfl, hb1⟩)
    go_ret
    exact ⟨rfl, hb1⟩
  by_cases hbig2 : ss.length < TS.length
  · have t1 : decide ((30 : Int) < (TS.length : Int)) = false := by simp; omega
    go_enter Try.func6, Try.ntmps6
    go_wp2_with (go_at_call 7; refine (alive_any _).mono ?_; rintro e w1 ⟨rfl, hb1⟩)
    go_ret
    exact ⟨rfl, hb1⟩
  · have hsm : TS.length ≤ 30 := by omega
    have hss : TS.length ≤ ss.length := by omega
    go_enter Try.func6, Try.ntmps6
    go_wp2_with (go_at_call 7; refine (alive_any _).mono ?_; rintro e w0 ⟨rfl, hb0⟩)
    have HO0 := Lib.hid (Own.of_below hb0)
    clear hb0
    refine (new_pos _ w0 [] 80 HO0.out (by decide) (by decide)).mono ?_
    rintro e w1 ⟨d, rfl, hA1⟩
    have hA4 : DkAt w (w1.alloc (.cells #[] 30)) d (newM 80) [rowV (.slice (some ⟨w1.heap.size, 0, none⟩) 0 0) []] := hA1.join ((Own.start w1).made 30 1 #[] 0 rfl (Nat.zero_le _))
    have HS := Lib.hid (show AnewRel w d TS.length (.slice (some ⟨w1.heap.size, 0, none⟩) 0 0) (.int .i64 0) (w1.alloc (.cells #[] 30)) from ⟨0, newM 80, [], [], _, Nat.zero_le _, rfl, ⟨hA4, .inl ⟨rfl, rfl⟩⟩, List.mem_singleton.2 rfl, Lst.nil _, by decide⟩)
    clear hA4 hA1 HO0
    go_wp2_with fail
    go_loopw [8, 35] (fun hv t wr => AnewRel w d TS.length hv t wr) (fun _ t _ => 31 - (intOf t).toNat)
    case atStart => exact HS.out
    case round =>
      obtain ⟨i, D, held, vs, L, hi, rfl, hSh, hm, hL, hh8⟩ := hrel
      have hbel := hSh.1.own.below
      obtain ⟨ah, ch, rfl, _, _⟩ := parts_in hSh.1.own hm hL
      by_cases hlt : i < TS.length
      · obtain ⟨g, o, rfl, hc, hP, hPn⟩ := (HT.out.later hbel) i hlt
        have hP0 : Parts w TS[i].1 TS[i].2.2 := by
          obtain ⟨_, _, _, _, h, _⟩ := HT.out i hlt
          exact h
        have hi2 : i < ss.length := by omega
        obtain ⟨g2, o2, rfl, hc2⟩ := HI.out i hi2
        have HcI := Lib.hid (fun (w' : World) (hb : Below w.heap.size w w') => (hb.cell (p := ⟨g2, o2 + i, none⟩) (World.block_lt_of_cell? w _ hc2)).trans hc2)
        clear hc2
        generalize ss[i] = z at *
        generalize TS[i] = T at *
        obtain ⟨x, c', PS⟩ := T
        simp only at hc hP hP0 hPn
        have HP0 := Lib.hid hP0
        have HSh := Lib.hid hSh
        have Hm := Lib.hid hm
        have HL := Lib.hid hL
        have hPn9 : PS.length < 9223372036854775808 := Nat.lt_of_le_of_lt hPn (by unfold maxLen; decide)
        clear hP0 hSh hm hL HS hPn
        by_cases h8 : 8 < PS.length
        · have HF := Lib.hid (show AnewRel w d TS.length (.slice ah vs.length ch) (.int .i64 ((i + 1 : Nat) : Int)) wr from ⟨i + 1, D, held, vs, L, by omega, rfl, ⟨HSh.out.1, by
            rcases HSh.out.2 with h | ⟨s, u, h⟩
            · exact .inl h
            · exact .inr ⟨s, u, h.to (by omega)⟩⟩, Hm.out, HL.out, hh8⟩)
          clear hP HSh Hm HL
          go_wp2_with fail
          exact ⟨by have := HF.out; simpa using this, by simp [intOf]; omega⟩
        · have HP := Lib.hid hP
          clear hP
          go_wp2_with fail
          go_loopw [45] (fun t wq => ∃ k : Nat, k ≤ PS.length ∧ t = .int .i64 k ∧ wq = wr ∧ ∀ (j : Nat) (hj : j < PS.length), j < k → (PS[j].2).length ≤ 100) (fun t _ => 9 - (intOf t).toNat)
          case atStart => exact ⟨0, Nat.zero_le _, rfl, rfl, fun j _ h => absurd h (Nat.not_lt_zero _)⟩
          case round =>
            obtain ⟨k, hk, rfl, rfl, hall⟩ := hrel
            by_cases hkl : k < PS.length
            · obtain ⟨g3, o3, x3, c3, rfl, hc3, hv3, hx1, hx2⟩ := HP.out.form k hkl
              have Hall := Lib.hid hall
              clear hall hv3
              obtain ⟨bl, hbl⟩ : ∃ bl, (PS[k].2).length = bl := ⟨_, rfl⟩
              rw [hbl] at hc3 hx1
              have Hbl := Lib.hid hbl
              clear hbl
              have hbl9 : bl < 9223372036854775808 := Nat.lt_of_le_of_lt (Nat.le_trans hx1 hx2) (by unfold maxLen; decide)
              clear hx2
              by_cases h100 : 100 < bl
              · go_wp2_with fail
                go_ret
                exact ⟨rfl, hbel⟩
              · go_wp2_with fail
                exact ⟨⟨k + 1, by omega, by go_num, by trivial, fun j hj hjk => by
                  rcases Nat.lt_succ_iff_lt_or_eq.1 hjk with h | rfl
                  · exact Hall.out j hj h
                  · rw [Hbl.out]; omega⟩, by simp [intOf]; omega⟩
            · obtain rfl : k = PS.length := by omega
              have Hall := Lib.hid (fun (j : Nat) (hj : j < PS.length) => hall j hj hj)
              clear hall
              have hPSl : PS.length ≤ 8 := by omega
              have hR : Recs (PS.map (·.2)) := fun y hy => by
                obtain ⟨p, hp, rfl⟩ := List.mem_map.1 hy
                obtain ⟨j, hj, rfl⟩ := List.getElem_of_mem hp
                obtain ⟨_, _, _, _, hb⟩ := HP.out j hj
                exact ⟨hb.2.1, by have := Hall.out j hj; omega⟩
              have hfit : (secsB (PS.map (·.2))).length ≤ 39 := by
                have := secs_some (PS.map (·.2)) 0 (fun y hy => by
                  obtain ⟨p, hp, rfl⟩ := List.mem_map.1 hy
                  obtain ⟨j, hj, rfl⟩ := List.getElem_of_mem hp
                  exact Hall.out j hj)
                rw [List.length_map] at this
                omega
              have HR := Lib.hid hR
              have Hfit := Lib.hid hfit
              obtain ⟨q1, hq1, hq1b⟩ := and_mask z 31 (by decide)
              obtain ⟨q2, hq2, hq2b⟩ := and_mask (i : Int) 31 (by decide)
              obtain ⟨q3, hq3, hq3b⟩ := and_mask (i : Int) 15 (by decide)
              have hq1 : bits BinOp.and IntKind.i64 z 31 = (q1 : Int) := hq1
              have hq2 : bits BinOp.and IntKind.i64 (i : Int) 31 = (q2 : Int) := hq2
              have hq3 : bits BinOp.and IntKind.i64 (i : Int) 15 = (q3 : Int) := hq3
              clear hR hfit HP Hall hc
              go_wp2_with fail
              refine (open_shelf HSh.out).mono ?_
              rintro e w2 ⟨l, D2, s2, u2, rfl, hA2, hV2⟩
              have HA2 := Lib.hid hA2
              have HV2 := Lib.hid hV2
              clear hA2 hV2 HSh
              go_wp2_with fail
              refine (list_any HA2.out HV2.out.holds.all HV2.out.many).mono ?_
              rintro e w3 ⟨lv3, vs3, M3, rfl, hO3, hL3⟩
              have HA3 := Lib.hid (HA2.out.join hO3)
              have HS3 := Lib.hid (same_yes HA3.out.own (lv := lv3) (vs := vs3) (recs := held) (lv2 := .slice ah vs.length ch) (vs2 := vs) (by simp) (hL3.mono fun y hy => by simp [hy]) (by simp [Hm.out]) (HL.out.mono fun y hy => by simp [hy]))
              obtain ⟨a3, c3, rfl⟩ := list_form hO3
              clear hO3 hL3 HA2
              go_wp2_with fail
              refine HS3.out.mono ?_
              rintro e w4 ⟨rfl, n4, rfl⟩
              have HA4 := Lib.hid (HA3.out.drewN (n := n4))
              clear HA3 HS3
              generalize w3.drewN n4 = w4 at *
              have hc4 := HcI.out w4 HA4.out.below
              obtain ⟨L4, hd4, hb4⟩ := HA4.out.diskCall
              have Hd4 := Lib.hid hd4.drew
              have Hb4 := Lib.hid hb4
              clear hd4 hb4
              go_wp2_with fail
              go_still_tail 11, (by kernel_rfl)
              repeat still_step
              go_wp2_with fail
              refine (plan_any _ w4.drew d D2 L4 _ _ Hd4.out (by omega) (quot_in keeps hk0 hk1 _ (pow_in _)).1 (quot_in keeps hk0 hk1 _ (pow_in _)).2).mono ?_
              rintro e w5 ⟨rfl, hA5⟩
              have HA5 := Lib.hid (Hb4.out w5 _ hA5 rfl)
              clear hA5 Hd4 Hb4 HA4 hc4
              go_wp2_with fail
              refine (rewrite_crash HA5.out (HV2.out.plan _ _) (by omega) x c' PS _ rfl (fun w' h => HP0.out.later h.below) HR.out Hfit.out).mono ?_
              rintro e w6 ⟨D6, code, L6, now, rfl, hcd, hA6, hin6, hnow, hV6⟩
              have HA6 := Lib.hid hA6
              have Hin6 := Lib.hid hin6
              have Hnow := Lib.hid hnow
              have HV6 := Lib.hid hV6
              have Hcd := Lib.hid hcd
              clear hA6 hin6 hnow hV6 HA5 HV2 hcd
              go_wp2_with fail
              refine (crash_any _ w6 d D6 L6 _ HA6.out (quot_in keeps hk0 hk1 _ (pow_in _)).1 (quot_in keeps hk0 hk1 _ (pow_in _)).2).mono ?_
              rintro e w7 ⟨rfl, hA7⟩
              have HA7 := Lib.hid hA7
              clear hA7 HA6
              go_wp2_with fail
              refine (on_any _ w7 d _ L6 HA7.out).mono ?_
              rintro e w8 ⟨rfl, hA8⟩
              have hX : ∃ D8, DkAt w w8 d D8 L6 ∧ ∃ s u, Live D8 80 39 s u now (6000 * i + 3 + 5000) := ⟨_, hA8, HV6.out _⟩
              obtain ⟨D8, hA8, s8, u8, hV8⟩ := hX
              have HA8 := Lib.hid hA8
              have HV8 := Lib.hid hV8
              clear hA8 hV8 HA7 HV6
              go_wp2_with fail
              refine (open_live HA8.out HV8.out).mono ?_
              rintro e w9 ⟨l9, rfl, hA9⟩
              have HA9 := Lib.hid hA9
              clear hA9 HA8
              go_wp2_with fail
              refine (list_any HA9.out HV8.out.holds.all HV8.out.many).mono ?_
              rintro e w10 ⟨lv10, vs10, M10, rfl, hO10, hL10⟩
              have HA10 := Lib.hid (HA9.out.join hO10)
              have HL10 := Lib.hid hL10
              have hn8 : now.length ≤ 8 := by
                rcases Hnow.out with rfl | ⟨_, rfl⟩
                · rw [List.length_map]; exact hPSl
                · exact hh8
              have HF := Lib.hid (fun (w' : World) (h : LgAt (w : Base) w' l9 d D8 s8 u8 now false ((rowV lv10 vs10 :: M10) ++ L6)) => (by
                obtain ⟨L10, hd10, hin10⟩ := h.diskIn
                exact ⟨i + 1, D8, now, vs10, L10, by omega, rfl, ⟨hd10, .inr ⟨s8, u8, HV8.out.to (by omega)⟩⟩, hin10 _ (by simp), HL10.out.mono (fun y hy => hin10 _ (by simp [hy])), hn8⟩ : AnewRel w d TS.length lv10 (.int .i64 ((i + 1 : Nat) : Int)) w'))
              have HQ := Lib.hid (fun (w' : World) (h : LgAt (w : Base) w' l9 d D8 s8 u8 now false ((rowV lv10 vs10 :: M10) ++ L6)) => same_old h.own (lv := lv10) (vs := vs10) (recs := now) (by simp) (HL10.out.mono fun y hy => by simp [hy]) x c' PS (HP0.out.later h.below) (Nat.le_trans hPSl (by unfold maxLen; decide)))
              have HH := Lib.hid (fun (w' : World) (h : LgAt (w : Base) w' l9 d D8 s8 u8 now false ((rowV lv10 vs10 :: M10) ++ L6)) => same_lists h.own (lv := lv10) (vs := vs10) (recs := now) (lv2 := .slice ah vs.length ch) (vs2 := vs) (recs2 := held) (by simp) (HL10.out.mono fun y hy => by simp [hy]) (by simp [Hin6.out _ (List.mem_append_right _ Hm.out)]) (HL.out.mono fun y hy => by simp [Hin6.out _ (List.mem_append_right _ hy)]))
              obtain ⟨a10, c10, rfl⟩ := list_form hO10
              clear hO10 hL10 HA9 HL10 HV8 HR Hfit HP0 HcI HL Hm Hin6
              by_cases heq : now = PS.map (·.2)
              · rw [decide_eq_true heq] at HQ
                rcases Hcd.out with rfl | rfl
                · go_wp2_with fail
                  refine (HQ.out _ HA10.out).mono ?_
                  rintro e w11 ⟨rfl, n11, rfl⟩
                  have HA11 := Lib.hid (HA10.out.drewN (n := n11))
                  generalize w10.drewN n11 = w11 at *
                  go_wp2_with fail
                  refine (HQ.out _ HA11.out).mono ?_
                  rintro e w12 ⟨rfl, n12, rfl⟩
                  have HE := Lib.hid (HF.out _ (HA11.out.drewN (n := n12)))
                  go_wp2_with fail
                  exact ⟨by have := HE.out; simpa using this, by simp [intOf]; omega⟩
                · go_wp2_with fail
                  refine (HQ.out _ HA10.out).mono ?_
                  rintro e w12 ⟨rfl, n12, rfl⟩
                  have HE := Lib.hid (HF.out _ (HA10.out.drewN (n := n12)))
                  go_wp2_with fail
                  exact ⟨by have := HE.out; simpa using this, by simp [intOf]; omega⟩
              · obtain ⟨rfl, hnh⟩ : code = 3 ∧ now = held := by
                  rcases Hnow.out with h | h
                  · exact absurd h heq
                  · exact h
                rw [decide_eq_false heq] at HQ
                rw [decide_eq_true hnh] at HH
                go_wp2_with fail
                refine (HQ.out _ HA10.out).mono ?_
                rintro e w11 ⟨rfl, n11, rfl⟩
                have HA11 := Lib.hid (HA10.out.drewN (n := n11))
                generalize w10.drewN n11 = w11 at *
                go_wp2_with fail
                refine (HH.out _ HA11.out).mono ?_
                rintro e w12 ⟨rfl, n12, rfl⟩
                have HE := Lib.hid (HF.out _ (HA11.out.drewN (n := n12)))
                go_wp2_with fail
                exact ⟨by have := HE.out; simpa using this, by simp [intOf]; omega⟩
      · obtain rfl : i = TS.length := by omega
        clear HT HI hSh hm hL HS
        go_wp2_with fail
        go_ret
        exact ⟨rfl, hbel⟩
end Go.Proofs.Ytjamolajobemaaa
