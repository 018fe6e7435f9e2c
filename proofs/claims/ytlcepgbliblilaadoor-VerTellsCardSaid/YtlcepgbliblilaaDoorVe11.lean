/- The document's Parse: its walk. -/
import Derived.Test.YtlcepgbliblilaaDoorVe10
namespace Go.Proofs.YtlcepgbliblilaaDoor
open Go.RowKit
set_option linter.unusedVariables false
set_option linter.unusedSimpArgs false
set_option maxRecDepth 100000

set_option maxHeartbeats 8000000 in
theorem refparse_any (s : ByteArray) (w : World) (hs : s.size ≤ 1000) : Calls Tryd.prog 7 #[.string s] w (RefPost w s.data.toList) := by
  have e0 := Lib.size_eq s
  have hcl := cut_le s.data.toList
  have Hst := Lib.hid (show DashRel s (.string s) (.int .i64 0) (.int .i64 0) from .inl ⟨0, Nat.zero_le _, rfl, rfl, rfl, by simp⟩)
  have HR := fun w1 => refnum_list (restL s.data.toList) w1 (by omega)
  have HPc := fun (p : List UInt8) (hp : p.length ≤ 1000000) w1 => refnum_list p w1 hp
  have E0 := Lib.hid e0
  have Hcl := Lib.hid hcl
  clear e0 hcl
  obtain ⟨i0, hi, hz0, hz1, hz2⟩ := int_info
  go_enter Tryd.func7, Tryd.ntmps7
  go_wp2_with fail
  go_loop [0, 5, 6] (fun x r i => DashRel s x r i) (fun _ _ i => s.size + 1 - (intOf i).toNat)
  case atStart => exact Hst.out
  case round =>
    clear Hst
    rcases hrel.ways with ⟨k, hk, rfl, rfl, rfl, hn⟩ | ⟨k, rv, rfl, rfl, rfl, hk, hok⟩
    · have hb := byte_is s[k] 45 45 rfl
      by_cases h4 : s[k] = 45
      · rw [decide_eq_true h4] at hb
        obtain ⟨c1, c2, c3⟩ := cut_first (l := s.data.toList) (k := k) (by rw [← E0.out]; exact hk) hn h4
        have hX : s.extract (k + 1) s.size = toB (restL s.data.toList) := by rw [ext_list, c3, List.take_of_length_le]; rw [List.length_drop, ← E0.out]; omega
        have HF := Lib.hid (show s.extract 0 k = toB (frontL s.data.toList) by rw [ext_list, c2]; simp)
        have hkf : (frontL s.data.toList).length = k := by rw [c2, List.length_take, ← E0.out]; omega
        have hcall := HR w
        rw [← hX] at hcall
        clear hrel hn h4 hX
        by_cases hnum : numL (restL s.data.toList) = true ∧ valN (restL s.data.toList) ≠ 0
        · have hv := valN_le hnum.1
          have HY := Lib.hid (show ∀ x r i, x = .string (toB (frontL s.data.toList)) → r = .int .i64 (valN (restL s.data.toList) : Int) → i = .int .i64 ((k + 1 : Nat) : Int) → DashRel s x r i from fun x r i hx hr hi => .inr ⟨_, hx, hr, by rw [hi, hkf], .inl ⟨c1, hnum.1, hnum.2, rfl⟩⟩)
          have hpos : ¬ (valN (restL s.data.toList) : Int) < 1 := by omega
          rw [refN_yes hnum.1] at hcall
          clear hnum c1 c2 c3 hkf
          generalize valN (restL s.data.toList) = n at *
          go_wp2_with fail
          refine hcall.mono ?_
          rintro e w1 ⟨rfl, rfl⟩
          clear hcall
          go_wp2_with fail
          go_round
          case rel => exact HY.out _ _ _ (by rw [HF.out]) (by go_num) (by go_num)
          case measure => simp [intOf]; omega
        · have HN := Lib.hid (refPost_no (w := w) (rightV_no1 c1 (by
            by_cases h5 : numL (restL s.data.toList) = true
            · exact .inr (Decidable.byContradiction fun k => hnum ⟨h5, k⟩)
            · exact .inl (by simpa using h5))) (Below.refl _ w))
          have hneg : refN (restL s.data.toList) < 1 := by
            unfold refN
            split
            · rename_i h5
              have : ¬ valN (restL s.data.toList) ≠ 0 := fun k => hnum ⟨h5, k⟩
              omega
            · omega
          clear hnum c1 c2 c3 hkf
          generalize refN (restL s.data.toList) = n at *
          go_wp2_with fail
          refine hcall.mono ?_
          rintro e w1 ⟨rfl, rfl⟩
          clear hcall
          go_wp2_with fail
          go_ret3
          exact HN.out
      · rw [decide_eq_false h4] at hb
        have HY := Lib.hid (show ∀ x r i, x = .string s → r = .int .i64 0 → i = .int .i64 ((k + 1 : Nat) : Int) → DashRel s x r i from fun x r i hx hr hi => .inl ⟨k + 1, hk, hx, hr, hi, not_mem_succ hk hn h4⟩)
        clear hrel hn h4
        go_wp2_with fail
        go_round
        case rel => exact HY.out _ _ _ rfl rfl (by go_num)
        case measure => simp [intOf]; omega
    · have hfl : (frontL s.data.toList).length ≤ 1000 := by have := Hcl.out.1; have := E0.out; omega
      obtain ⟨hr1, hr2⟩ := rightV_of hok
      have Hr1 := Lib.hid hr1
      have Hr2 := Lib.hid hr2
      have Hst2 := Lib.hid (show PcRel w (frontL s.data.toList) (.slice (some ⟨w.heap.size, 0, none⟩) 0 0) (.int .i64 0) (.int .i64 0) (w.alloc (.cells #[] 3)) from ⟨[], 0, 0, by omega, Nat.le_refl _, rfl, rfl, rfl, (Own.start w).made 3 1 #[] 0 rfl (by unfold maxLen; omega), VCut.start 46 _⟩)
      clear hrel hr1 hr2 hok HR Hcl E0
      obtain ⟨F, hF⟩ : ∃ F, toB (frontL s.data.toList) = F := ⟨_, rfl⟩
      have hFl : frontL s.data.toList = F.data.toList := by rw [← hF]
      rw [hF]
      rw [hFl] at hk hfl Hr1 Hr2 Hst2
      clear hF hFl
      have Hsz := Lib.hid (Lib.size_eq F)
      have hFs : F.size ≤ 1000 := by rw [Hsz.out]; exact hfl
      have hkF : ¬ (k : Int) < (F.size : Int) := by have := Hsz.out; omega
      go_wp2_with fail
      clear hkF
      go_loopw [7, 8, 9] (fun v fr i wr => PcRel w F.data.toList v fr i wr) (fun _ _ i _ => F.size + 1 - (intOf i).toNat)
      case atStart => exact Hst2.out
      case round =>
        clear Hst2
        obtain ⟨done, a, k2, hk2, ha, rfl, rfl, hall, hO, hC⟩ := hrel
        rw [← Hsz.out] at hk2
        have hfew := hC.few 1000 (by rw [← Hsz.out]; exact hFs)
        by_cases hlt : k2 ≤ F.size
        · by_cases hend : k2 = F.size
          · have hC3 := hC.stop (by rw [← Hsz.out]; exact hend)
            have e1 : ((k2 : Int) == (F.size : Int)) = true := by rw [beq_iff_eq]; omega
            have e2 : (k2 == F.size) = true := by simpa using hend
            clear hend
            have hp := hC3.piece
            have hplen : ((F.data.toList.drop a).take (k2 - a)).length ≤ 1000000 := by rw [List.length_take, List.length_drop, ← Hsz.out]; omega
            have hX : F.extract a k2 = toB ((F.data.toList.drop a).take (k2 - a)) := ext_list F a k2
            have hcall := HPc _ hplen wr
            rw [← hX] at hcall
            have HC3 := Lib.hid hC3
            clear hC3 hX hplen hC
            generalize hpd : (F.data.toList.drop a).take (k2 - a) = p at *
            clear hpd
            by_cases hg : numL p = true
            · rw [refN_yes hg] at hcall
              have hv := valN_le hg
              have Hall := Lib.hid (show (done ++ [p]).all numL = true by rw [List.all_append, hall, List.all_cons, hg]; rfl)
              have hnn : ¬ (valN p : Int) < 0 := by omega
              have hdl : (done.map valN).length = done.length := List.length_map ..
              obtain ⟨aq, cq, hu7, _, _⟩ := Own.sized (h := (show Own w wr (⟨3, 1, u7, (done.map valN).length, (done.map valN).map fun (n : Nat) => Value.int .i64 (n : Int)⟩ :: []) from hO))
              rw [hdl] at hu7
              have HO := Lib.hid (show Own w (wr.alloc (.cells #[.int .i64 (valN p : Int)] 3)) [⟨3, 1, u7, done.length, (done.map valN).map fun (n : Nat) => Value.int .i64 (n : Int)⟩] from by
                have h9 := hO.alloc (.cells #[.int .i64 (valN p : Int)] 3)
                unfold rowN at h9
                rw [hdl] at h9
                exact h9)
              have Hsrc := Lib.hid (src_oneV wr (.int .i64 (valN p : Int)) 3 rfl)
              have Hb1 := Lib.hid (show done.length + 1 ≤ maxLen by unfold maxLen; omega)
              have Hb2 := Lib.hid (show (done.length + 1) * 8 ≤ 140737488355328 by omega)
              subst hu7
              clear hO hall hp hg hdl
              obtain ⟨xs, hxs⟩ : ∃ xs, ((done.map valN).map fun (n : Nat) => Value.int .i64 (n : Int)) = xs := ⟨_, rfl⟩
              rw [hxs] at HO
              have Hxs := Lib.hid hxs
              clear hxs
              obtain ⟨np, hnp⟩ : ∃ np, valN p = np := ⟨_, rfl⟩
              rw [hnp] at hcall hv hnn HO Hsrc
              have Hnp := Lib.hid hnp
              clear hnp
              go_wp2_with fail
              refine hcall.mono ?_
              rintro e w1 ⟨rfl, rfl⟩
              clear hcall
              go_wp2_with (at_builtin; refine wpList_append_src rfl (.tmp 55) (.tmp 57) 23 rfl (.slice aq done.length cq) done.length xs (.slice (some ⟨wr.heap.size, 0, none⟩) 1 1) 1 [.int .i64 (np : Int)] rfl rfl HO.out i0 (.int .i64 0) 8 Tryd.underlying23 hi hz0 hz1 hz2 rfl (by decide) Hsrc.out rfl Hb1.out Hb2.out ?_)
              intro v2 w2 hO2
              have HX2 := Lib.hid (show ∀ fr i, fr = .int .i64 ((k2 + 1 : Nat) : Int) → i = .int .i64 ((k2 + 1 : Nat) : Int) → PcRel w F.data.toList v2 fr i w2 from fun fr i hfr hi => ⟨done ++ [p], k2 + 1, k2 + 1, by have := Hsz.out; omega, Nat.le_refl _, hfr, hi, Hall.out, rowN_push (by rw [Hnp.out, Hxs.out]; exact hO2), HC3.out⟩)
              obtain ⟨a9, c9, hv9, _, _⟩ := Own.sized (h := hO2)
              subst hv9
              clear hO2 HO Hsrc Hb1 Hb2 Hall HC3 Hxs Hnp
              have hsz2 := Hsz.out
              go_wp2_with fail
              go_roundw
              case rel => exact HX2.out _ _ (by go_num) (by go_num)
              case measure => simp [intOf]; omega
            · have hg : numL p = false := by simpa using hg
              rw [refN_no hg] at hcall
              have HN := Lib.hid (refPost_no (w := w) (w' := wr) (l := s.data.toList) (by rw [Hr1.out, show (bits 46 F.data.toList).all numL = false from List.all_eq_false.2 ⟨p, hp, by rw [hg]; decide⟩, Bool.and_false]) hO.below)
              clear hO hall hp hg HC3
              go_wp2_with fail
              refine hcall.mono ?_
              rintro e w1 ⟨rfl, rfl⟩
              clear hcall
              go_wp2_with fail
              go_ret3
              exact HN.out
          · have hk3 : k2 < F.size := by omega
            have e1 : ((k2 : Int) == (F.size : Int)) = false := by rw [beq_eq_false_iff_ne]; omega
            have e2 : (k2 == F.size) = false := by simpa using hend
            have e3 : (k2 : Int) < (F.size : Int) := by omega
            have hb := byte_is F[k2] 46 46 rfl
            have hkl : k2 < F.data.toList.length := by rw [← Hsz.out]; exact hk3
            by_cases h4 : F[k2] = 46
            · rw [decide_eq_true h4] at hb
              have hC3 := hC.mark hkl (show F.data.toList[k2] = 46 from h4)
              clear hend hkl h4
              have hp := hC3.piece
              have hplen : ((F.data.toList.drop a).take (k2 - a)).length ≤ 1000000 := by rw [List.length_take, List.length_drop, ← Hsz.out]; omega
              have hX : F.extract a k2 = toB ((F.data.toList.drop a).take (k2 - a)) := ext_list F a k2
              have hcall := HPc _ hplen wr
              rw [← hX] at hcall
              have HC3 := Lib.hid hC3
              clear hC3 hX hplen hC
              generalize hpd : (F.data.toList.drop a).take (k2 - a) = p at *
              clear hpd
              by_cases hg : numL p = true
              · rw [refN_yes hg] at hcall
                have hv := valN_le hg
                have Hall := Lib.hid (show (done ++ [p]).all numL = true by rw [List.all_append, hall, List.all_cons, hg]; rfl)
                have hnn : ¬ (valN p : Int) < 0 := by omega
                have hdl : (done.map valN).length = done.length := List.length_map ..
                obtain ⟨aq, cq, hu7, _, _⟩ := Own.sized (h := (show Own w wr (⟨3, 1, u7, (done.map valN).length, (done.map valN).map fun (n : Nat) => Value.int .i64 (n : Int)⟩ :: []) from hO))
                rw [hdl] at hu7
                have HO := Lib.hid (show Own w (wr.alloc (.cells #[.int .i64 (valN p : Int)] 3)) [⟨3, 1, u7, done.length, (done.map valN).map fun (n : Nat) => Value.int .i64 (n : Int)⟩] from by
                  have h9 := hO.alloc (.cells #[.int .i64 (valN p : Int)] 3)
                  unfold rowN at h9
                  rw [hdl] at h9
                  exact h9)
                have Hsrc := Lib.hid (src_oneV wr (.int .i64 (valN p : Int)) 3 rfl)
                have Hb1 := Lib.hid (show done.length + 1 ≤ maxLen by unfold maxLen; omega)
                have Hb2 := Lib.hid (show (done.length + 1) * 8 ≤ 140737488355328 by omega)
                subst hu7
                clear hO hall hp hg hdl
                obtain ⟨xs, hxs⟩ : ∃ xs, ((done.map valN).map fun (n : Nat) => Value.int .i64 (n : Int)) = xs := ⟨_, rfl⟩
                rw [hxs] at HO
                have Hxs := Lib.hid hxs
                clear hxs
                obtain ⟨np, hnp⟩ : ∃ np, valN p = np := ⟨_, rfl⟩
                rw [hnp] at hcall hv hnn HO Hsrc
                have Hnp := Lib.hid hnp
                clear hnp
                go_wp2_with fail
                refine hcall.mono ?_
                rintro e w1 ⟨rfl, rfl⟩
                clear hcall
                go_wp2_with (at_builtin; refine wpList_append_src rfl (.tmp 55) (.tmp 57) 23 rfl (.slice aq done.length cq) done.length xs (.slice (some ⟨wr.heap.size, 0, none⟩) 1 1) 1 [.int .i64 (np : Int)] rfl rfl HO.out i0 (.int .i64 0) 8 Tryd.underlying23 hi hz0 hz1 hz2 rfl (by decide) Hsrc.out rfl Hb1.out Hb2.out ?_)
                intro v2 w2 hO2
                have HX2 := Lib.hid (show ∀ fr i, fr = .int .i64 ((k2 + 1 : Nat) : Int) → i = .int .i64 ((k2 + 1 : Nat) : Int) → PcRel w F.data.toList v2 fr i w2 from fun fr i hfr hi => ⟨done ++ [p], k2 + 1, k2 + 1, by have := Hsz.out; omega, Nat.le_refl _, hfr, hi, Hall.out, rowN_push (by rw [Hnp.out, Hxs.out]; exact hO2), HC3.out⟩)
                obtain ⟨a9, c9, hv9, _, _⟩ := Own.sized (h := hO2)
                subst hv9
                clear hO2 HO Hsrc Hb1 Hb2 Hall HC3 Hxs Hnp
                have hsz2 := Hsz.out
                go_wp2_with fail
                go_roundw
                case rel => exact HX2.out _ _ (by go_num) (by go_num)
                case measure => simp [intOf]; omega
              · have hg : numL p = false := by simpa using hg
                rw [refN_no hg] at hcall
                have HN := Lib.hid (refPost_no (w := w) (w' := wr) (l := s.data.toList) (by rw [Hr1.out, show (bits 46 F.data.toList).all numL = false from List.all_eq_false.2 ⟨p, hp, by rw [hg]; decide⟩, Bool.and_false]) hO.below)
                clear hO hall hp hg HC3
                go_wp2_with fail
                refine hcall.mono ?_
                rintro e w1 ⟨rfl, rfl⟩
                clear hcall
                go_wp2_with fail
                go_ret3
                exact HN.out
            · rw [decide_eq_false h4] at hb
              have HC3 := Lib.hid (hC.on hkl (show F.data.toList[k2] ≠ 46 from h4))
              have HX2 := Lib.hid (show ∀ i, i = .int .i64 ((k2 + 1 : Nat) : Int) → PcRel w F.data.toList u7 (.int .i64 a) i wr from fun i hi => ⟨done, a, k2 + 1, by have := Hsz.out; omega, by omega, rfl, hi, hall, hO, HC3.out⟩)
              have hbi : ¬ (F[k2].toNat : Int) = 46 := by simpa using hb
              clear hend h4 hall hO hC HC3
              go_wp2_with fail
              go_roundw
              case rel => exact HX2.out _ (by go_num)
              case measure => simp [intOf]; omega
        · have hde := hC.ended (by rw [← Hsz.out]; exact hlt)
          rw [hde] at Hr1 Hr2
          have hdl : (done.map valN).length = done.length := List.length_map ..
          obtain ⟨aq, cq, hu7, _, _⟩ := Own.sized (h := (show Own w wr (⟨3, 1, u7, (done.map valN).length, (done.map valN).map fun (n : Nat) => Value.int .i64 (n : Int)⟩ :: []) from hO))
          rw [hdl] at hu7
          have Hdec := Lib.hid (show decide ((done.length : Int) ≤ 4) = rightV s.data.toList by
            rw [Hr1.out, hall, Bool.and_true, Bool.eq_iff_iff, decide_eq_true_iff, decide_eq_true_iff]; omega)
          subst hu7
          have HO := Lib.hid hO
          clear hO hC hall hde hdl
          go_wp2_with fail
          go_ret3
          exact ⟨.slice aq done.length cq, done.map valN, rv, by rw [← Hdec.out]; rfl, HO.out, fun h => ⟨((Hr2.out h).2).symm, ((Hr2.out h).1).symm⟩⟩
end Go.Proofs.YtlcepgbliblilaaDoor
