/- farrierref13.line: a line that begins with the word of list 1. -/
import Derived.Test.YtmnohaefklglfaaDoorUn24
namespace Go.Proofs.YtmnohaefklglfaaDoor
open Go.RowKit
open Go.ChangeMaps (setBlock)
set_option linter.unusedVariables false
set_option linter.unusedSimpArgs false
set_option maxRecDepth 100000

set_option maxHeartbeats 16000000 in
theorem line_list1 (Q : Nat → Prop) (w : World) (v : Value) (u : UD) (s : ByteArray) (hQ : ∀ g, w.heap.size ≤ g → Q g) (h : UnitQ Q w v u) (h8 : ∀ l ∈ u.ls, l.length ≤ 8) (hs : s.size ≤ 1000) (hx : (cutL s.data.toList).1 = [97, 102, 116, 101, 114]) :
    Calls Tryd.prog 18 #[v, .string s] w fun e w' => (∃ v', e = .returned (.tuple #[v', .int .i64 (linkU u 1 (cutL s.data.toList).2).2]) ∧ UnitQ Q w' v' (linkU u 1 (cutL s.data.toList).2).1) ∧ Below w.heap.size w w' := by
  obtain ⟨v0, v1, v2, v3, v4, v5, l0, l1, l2, l3, l4, l5, rfl, hls, hB⟩ := h
  obtain ⟨a0, c0, rfl⟩ := hB.s0.slice
  obtain ⟨m0, hm0⟩ : ∃ m, l0.length = m := ⟨_, rfl⟩
  obtain ⟨a1, c1, rfl⟩ := hB.s1.slice
  obtain ⟨m1, hm1⟩ : ∃ m, l1.length = m := ⟨_, rfl⟩
  obtain ⟨a2, c2, rfl⟩ := hB.s2.slice
  obtain ⟨m2, hm2⟩ : ∃ m, l2.length = m := ⟨_, rfl⟩
  obtain ⟨a3, c3, rfl⟩ := hB.s3.slice
  obtain ⟨m3, hm3⟩ : ∃ m, l3.length = m := ⟨_, rfl⟩
  obtain ⟨a4, c4, rfl⟩ := hB.s4.slice
  obtain ⟨m4, hm4⟩ : ∃ m, l4.length = m := ⟨_, rfl⟩
  obtain ⟨a5, c5, rfl⟩ := hB.s5.slice
  obtain ⟨m5, hm5⟩ : ∃ m, l5.length = m := ⟨_, rfl⟩
  have hrl := cutL_len s.data.toList
  have hzl : s.data.toList.length = s.size := (Lib.size_eq s).symm
  rw [hls] at h8
  have e80 := h8 l0 (by simp)
  rw [hm0] at e80 hB ⊢
  have HM0 := Lib.hid hm0
  clear hm0
  have e81 := h8 l1 (by simp)
  rw [hm1] at e81 hB ⊢
  have HM1 := Lib.hid hm1
  clear hm1
  have e82 := h8 l2 (by simp)
  rw [hm2] at e82 hB ⊢
  have HM2 := Lib.hid hm2
  clear hm2
  have e83 := h8 l3 (by simp)
  rw [hm3] at e83 hB ⊢
  have HM3 := Lib.hid hm3
  clear hm3
  have e84 := h8 l4 (by simp)
  rw [hm4] at e84 hB ⊢
  have HM4 := Lib.hid hm4
  clear hm4
  have e85 := h8 l5 (by simp)
  rw [hm5] at e85 hB ⊢
  have HM5 := Lib.hid hm5
  clear hm5
  obtain ⟨ns, hns⟩ : ∃ ns, toB u.name = ns := ⟨_, rfl⟩
  rw [hns]
  have hem : ns.toList.isEmpty = decide (u.name = []) := by rw [← hns, toList_toB, Bool.eq_iff_iff, List.isEmpty_iff, decide_eq_true_iff]
  have HEM := Lib.hid hem
  have HNS := Lib.hid hns
  obtain ⟨ru, hru⟩ : ∃ ru, refR u = ru := ⟨_, rfl⟩
  rw [hru]
  have HRU := Lib.hid hru
  obtain ⟨x, hxe⟩ : ∃ x, (cutL s.data.toList).1 = x := ⟨_, rfl⟩
  obtain ⟨r, hre⟩ : ∃ r, (cutL s.data.toList).2 = r := ⟨_, rfl⟩
  rw [hre] at hrl
  try rw [hre]
  rw [hxe] at hx
  have hr1 : r.length ≤ 1000 := by omega
  obtain ⟨W2, hW2⟩ : ∃ W2, W2 = (w.alloc (.cells #[.string ns, .slice a0 m0 c0, .slice a1 m1 c1, .slice a2 m2 c2, .slice a3 m3 c3, .slice a4 m4 c4, .slice a5 m5 c5, .int .i64 ru] 31)).alloc (.cells #[.string ⟨#[]⟩, .slice none 0 0, .slice none 0 0, .slice none 0 0, .slice none 0 0, .slice none 0 0, .slice none 0 0, .int .i64 0] 31) := ⟨_, rfl⟩
  have hsz2 : W2.heap.size = w.heap.size + 1 + 1 := by rw [hW2]; simp
  have hb2 : Below w.heap.size w W2 := by rw [hW2]; exact ((Below.refl _ w).alloc (Nat.le_refl _) _).alloc (by simp) _
  have hA2 : W2.heap[w.heap.size]? = some (.cells #[.string ns, .slice a0 m0 c0, .slice a1 m1 c1, .slice a2 m2 c2, .slice a3 m3 c3, .slice a4 m4 c4, .slice a5 m5 c5, .int .i64 ru] 31) := by
    rw [hW2, Below.heap_alloc _ _ _ (by simp)]; exact World.alloc_heap_new w _
  have hZ2 : W2.heap[w.heap.size + 1]? = some (.cells #[.string ⟨#[]⟩, .slice none 0 0, .slice none 0 0, .slice none 0 0, .slice none 0 0, .slice none 0 0, .slice none 0 0, .int .i64 0] 31) := by
    rw [hW2]
    have := World.alloc_heap_new (w.alloc (.cells #[.string ns, .slice a0 m0 c0, .slice a1 m1 c1, .slice a2 m2 c2, .slice a3 m3 c3, .slice a4 m4 c4, .slice a5 m5 c5, .int .i64 ru] 31)) (.cells #[.string ⟨#[]⟩, .slice none 0 0, .slice none 0 0, .slice none 0 0, .slice none 0 0, .slice none 0 0, .slice none 0 0, .int .i64 0] 31)
    rwa [World.size_alloc] at this
  have HQ := Lib.hid hQ
  have HLs := Lib.hid hls
  have HB := Lib.hid hB
  have HXE := Lib.hid hxe
  have HRE := Lib.hid hre
  have HX := Lib.hid hx
  have HZL := Lib.hid hzl
  have HW2 := Lib.hid hW2
  have HB2 := Lib.hid hb2
  have HA2 := Lib.hid hA2
  have HZ2 := Lib.hid hZ2
  have HSZ := Lib.hid hsz2
  have HSp := Lib.hid (refsplit_l r W2 (by unfold maxLen; omega))
  have HNm := Lib.hid (fun W => refname_l r W (by unfold maxLen; omega))
  have hxs := @beq_eqs x
  clear hns hru hem hQ hls hB hxe hre hx hzl hW2 hb2 hA2 hZ2 hsz2 hrl h8 hxs
  go_enter Tryd.func18, Tryd.ntmps18
  go_upto_block 0 with (fail)
  rw [← HW2.out]
  go_cut [6, 7] (fun a b wc => a = .string (toB x) ∧ b = .string (toB r) ∧ wc = W2)
  case first =>
    go_wp2_with fail
    go_loopw [6, 7, 8] (fun a b i wr => ∃ k : Nat, k ≤ s.size ∧ i = .int .i64 k ∧ a = .string s ∧ b = .string ⟨#[]⟩ ∧ W2 = wr ∧ Hid ((32 : UInt8) ∉ s.data.toList.take k)) (fun _ _ i _ => s.size - (intOf i).toNat)
    case atStart => exact ⟨0, Nat.zero_le _, rfl, rfl, rfl, rfl, by simp [Hid]⟩
    case round =>
      obtain ⟨k, hk, rfl, rfl, rfl, rfl, HA⟩ := hrel
      by_cases hlt : k < s.size
      · have hb := byte_32 s[k]
        have hkl : k < s.data.toList.length := by rw [HZL.out]; exact hlt
        have hsk : s.data.toList[k] = s[k] := rfl
        by_cases hc : s[k] = 32
        · have hcut := cutL_at HA.out hkl (by rw [hsk]; exact hc)
          have h1 : s.extract 0 k = toB x := by
            apply ByteArray.ext; rw [← Array.toList_inj, Lib.extract_data, ← HXE.out, hcut]; simp
          have h2 : s.extract (k + 1) s.size = toB r := by
            apply ByteArray.ext; rw [← Array.toList_inj, Lib.extract_data, ← HRE.out, hcut]
            rw [List.take_of_length_le (by rw [List.length_drop, HZL.out]; exact Nat.le_refl _)]
          have H1 := Lib.hid h1
          have H2 := Lib.hid h2
          rw [decide_eq_true hc] at hb
          clear hc hcut h1 h2 hsk hkl HA
          go_wp2_with fail
          go_meet
          exact ⟨by rw [H1.out], by rw [H2.out], rfl⟩
        · have HA2 := Lib.hid (show (32 : UInt8) ∉ s.data.toList.take (k + 1) from by
            rw [List.take_succ_eq_append_getElem hkl]
            intro hm
            rcases List.mem_append.1 hm with hm | hm
            · exact HA.out hm
            · exact hc (by rw [← hsk]; exact (List.mem_singleton.1 hm).symm))
          rw [decide_eq_false hc] at hb
          have hbn : ¬ ((s[k].toNat : Int) = 32) := by simpa using hb
          clear hc hsk HA
          go_wp2_with fail
          go_roundw
          case rel => exact ⟨k + 1, by omega, by go_num, rfl, rfl, trivial, HA2⟩
          case measure => simp [intOf]; omega
      · obtain rfl : k = s.size := by omega
        have hcut := cutL_none (l := s.data.toList) (by have := HA.out; rwa [List.take_of_length_le (by rw [HZL.out]; exact Nat.le_refl _)] at this)
        have H1 := Lib.hid (show s = toB x from by rw [← HXE.out, hcut])
        have H2 := Lib.hid (show (⟨#[]⟩ : ByteArray) = toB r from by rw [← HRE.out, hcut])
        clear hcut HA
        go_wp2_with fail
        go_meet
        exact ⟨by rw [← H1.out], by rw [← H2.out], rfl⟩
  case rest =>
    obtain ⟨rfl, rfl, rfl⟩ := hcut
    obtain ⟨rs, hrs⟩ : ∃ rs, toB r = rs := ⟨_, rfl⟩
    have HRS := Lib.hid hrs
    have k1 : ((toB x).toList == [117, 110, 105, 116]) = false := by rw [beq_eqs, HX.out]; decide
    have k2 : ((toB x).toList == [102, 105, 108, 101]) = false := by rw [beq_eqs, HX.out]; decide
    have k3 : ((toB x).toList == [114, 101, 116, 114, 121]) = false := by rw [beq_eqs, HX.out]; decide
    have hwd := fun W => wordref_any x W
    rw [show wordN x = 0 from by rw [HX.out]; rfl] at hwd
    have HWd := Lib.hid hwd
    clear hwd
    generalize toB x = xs at *
    rw [hrs] at HSp HNm ⊢
    clear hrs
    go_wp2_with fail
    refine HSp.out.mono ?_
    rintro e w3 ⟨v3, rfl, hO3⟩
    obtain ⟨a9, c9, rfl, _, _⟩ := Own.sized (h := hO3)
    have HB3 := Lib.hid (HB2.out.trans (hO3.below.mono (by rw [HSZ.out]; omega)))
    have hz3 : w.heap.size + 1 + 1 ≤ w3.heap.size := by have := hO3.below.size; rw [← HSZ.out]; exact this
    have HA3 := Lib.hid (show w3.heap[w.heap.size]? = some (.cells #[.string ns, .slice a0 m0 c0, .slice a1 m1 c1, .slice a2 m2 c2, .slice a3 m3 c3, .slice a4 m4 c4, .slice a5 m5 c5, .int .i64 ru] 31) from (hO3.below.block _ (lt_of_heap HA2.out)).trans HA2.out)
    have HZ3 := Lib.hid (show w3.heap[w.heap.size + 1]? = some (.cells #[.string ⟨#[]⟩, .slice none 0 0, .slice none 0 0, .slice none 0 0, .slice none 0 0, .slice none 0 0, .slice none 0 0, .int .i64 0] 31) from (hO3.below.block _ (lt_of_heap HZ2.out)).trans HZ2.out)
    obtain ⟨p0, p1, p2, p3, p4, p5, p6, p7⟩ := box_cells HA3.out
    obtain ⟨z0, z1, z2, z3, z4, z5, z6, z7⟩ := box_cells HZ3.out
    have pf := fun j => free_at HA3.out j
    have zf := fun j => free_at HZ3.out j
    clear hO3 HSp
    obtain ⟨i0, hi, hi0, hi1, hi2⟩ := info_parts info_ss
    have HWd := Lib.hid (HWd.out w3)
    go_wp2_with fail
    refine HWd.out.mono ?_
    rintro e w4 ⟨rfl, hb4⟩
    have HB3 := Lib.hid (HB3.out.trans (hb4.mono HB3.out.size))
    have hz3 : w.heap.size + 1 + 1 ≤ w4.heap.size := by have := hb4.size; omega
    have HA3 := Lib.hid ((hb4.block _ (lt_of_heap HA3.out)).trans HA3.out)
    have HZ3 := Lib.hid ((hb4.block _ (lt_of_heap HZ3.out)).trans HZ3.out)
    clear p0 p1 p2 p3 p4 p5 p6 p7 z0 z1 z2 z3 z4 z5 z6 z7 pf zf hb4 HWd
    obtain ⟨p0, p1, p2, p3, p4, p5, p6, p7⟩ := box_cells HA3.out
    obtain ⟨z0, z1, z2, z3, z4, z5, z6, z7⟩ := box_cells HZ3.out
    have pf := fun j => free_at HA3.out j
    have zf := fun j => free_at HZ3.out j
    have HNm := Lib.hid (HNm.out w4)
    have hr0 := rightU_other (k := 1) (by decide) r
    cases hn : nameL r
    · rw [hn] at HNm hr0
      have HD := Lib.hid (show linkU u 1 r = (u, 14) from by unfold linkU; rw [if_pos hr0])
      clear hn hr0
      go_wp2_with fail
      refine HNm.out.mono ?_
      rintro e w5 ⟨rfl, rfl⟩
      go_wp2_with fail
      rw [set8_eq HZ3.out]
      refine bodyPost_ret (ret_line rfl rfl (setBlock_heap _ _ _ (lt_of_heap HZ3.out)).1) rfl ?_
      rw [HD.out]
      exact ⟨⟨_, rfl, _, _, _, _, _, _, l0, l1, l2, l3, l4, l5, by rw [HNS.out, HRU.out], HLs.out, HB.out.later (below_turn HB3.out (Nat.le_succ _) (by omega) _)⟩, below_turn HB3.out (Nat.le_succ _) (by omega) _⟩
    · rw [hn] at HNm hr0
      have hrt : rightU 1 r = true := hr0
      clear hn hr0
      go_wp2_with fail
      refine HNm.out.mono ?_
      rintro e w5 ⟨rfl, rfl⟩
      have hlk : listU u 1 = l1 := by unfold listU; rw [HLs.out]; rfl
      have HHs := Lib.hid (hasref_any (.slice a1 m1 c1) l1 r w4 (HB.out.s1.1.later HB3.out) (by rw [HM1.out]; omega))
      rw [HRS.out] at HHs
      by_cases hin : r ∈ l1
      · rw [decide_eq_true hin] at HHs
        have HD := Lib.hid (show linkU u 1 r = (u, 9) from by show linkU u 1 r = _; unfold linkU; rw [if_neg (by rw [hrt]; decide), hlk, if_pos hin])
        clear hin hrt hlk
        go_wp2_with fail
        refine HHs.out.mono ?_
        rintro e w9 ⟨rfl, rfl⟩
        go_wp2_with fail
        rw [set8_eq HZ3.out]
        refine bodyPost_ret (ret_line rfl rfl (setBlock_heap _ _ _ (lt_of_heap HZ3.out)).1) rfl ?_
        rw [HD.out]
        exact ⟨⟨_, rfl, _, _, _, _, _, _, l0, l1, l2, l3, l4, l5, by rw [HNS.out, HRU.out], HLs.out, HB.out.later (below_turn HB3.out (Nat.le_succ _) (by omega) _)⟩, below_turn HB3.out (Nat.le_succ _) (by omega) _⟩
      · rw [decide_eq_false hin] at HHs
        by_cases h88 : m1 = 8
        · have HD := Lib.hid (show linkU u 1 r = (u, 22) from by show linkU u 1 r = _; unfold linkU; rw [if_neg (by rw [hrt]; decide), hlk, if_neg hin, if_pos (HM1.out.trans h88)])
          obtain rfl : m1 = 8 := h88
          clear hin hrt hlk
          go_wp2_with fail
          refine HHs.out.mono ?_
          rintro e w9 ⟨rfl, rfl⟩
          go_wp2_with fail
          rw [set8_eq HZ3.out]
          refine bodyPost_ret (ret_line rfl rfl (setBlock_heap _ _ _ (lt_of_heap HZ3.out)).1) rfl ?_
          rw [HD.out]
          exact ⟨⟨_, rfl, _, _, _, _, _, _, l0, l1, l2, l3, l4, l5, by rw [HNS.out, HRU.out], HLs.out, HB.out.later (below_turn HB3.out (Nat.le_succ _) (by omega) _)⟩, below_turn HB3.out (Nat.le_succ _) (by omega) _⟩
        · have HD := Lib.hid (show linkU u 1 r = (⟨u.name, [l0, (l1 ++ [r]), l2, l3, l4, l5], u.retry⟩, 0) from by show linkU u 1 r = _; unfold linkU; rw [if_neg (by rw [hrt]; decide), hlk, if_neg hin, if_neg (fun e => h88 (HM1.out.symm.trans e)), HLs.out]; rfl)
          have h89 : ((m1 : Int) == 8) = false := by rw [beq_eq_false_iff_ne]; omega
          clear hin hrt hlk
          go_wp2_with fail
          refine HHs.out.mono ?_
          rintro e w9 ⟨rfl, rfl⟩
          have HO0 := Lib.hid (show Own w4 (w4.alloc (.cells #[] 9)) [rowSs (.slice (some ⟨w4.heap.size, 0, none⟩) 0 0) []] from (Own.start w4).made 9 1 #[] 0 rfl (by unfold maxLen; omega))
          have hsrc0 := (HB.out.s1.later (HB3.out.trans (((Below.refl _ w4).alloc (Nat.le_refl _) (.cells #[] 9)).mono HB3.out.size))).src
          rw [HM1.out] at hsrc0
          have Hsrc0 := Lib.hid hsrc0
          have pa : (w4.alloc (.cells #[] 9)).cell? ⟨w.heap.size, 2, none⟩ = some (.slice a1 m1 c1) := by
            rw [((Below.refl _ w4).alloc (Nat.le_refl _) (.cells #[] 9)).cell (p := ⟨w.heap.size, 2, none⟩) (by show w.heap.size < w4.heap.size; omega)]; exact p2
          clear hsrc0
          go_wp2_with (at_builtin; refine wpList_append_src rfl (.tmp 127) (.tmp 131) 23 rfl (.slice (some ⟨w4.heap.size, 0, none⟩) 0 0) 0 [] (.slice a1 m1 c1) m1 (strs l1) rfl rfl HO0.out i0 (.string ⟨#[]⟩) 16 Tryd.underlying23 hi hi0 hi1 hi2 rfl (by decide) Hsrc0.out (by simp [strs, HM1.out]) (by unfold maxLen; omega) (by omega) ?_)
          intro v1 w1 hO1
          have hO1 : Own w4 w1 [rowSs v1 l1] := by
            have e : (⟨9, 1, v1, m1, strs l1⟩ : Rw) = rowSs v1 l1 := by simp [rowSs, HM1.out]
            rw [← e]; exact hO1
          obtain ⟨aq, cq, rfl, _, _⟩ := Own.sized (h := hO1)
          have HO := Lib.hid (show Own w4 (w1.alloc (.cells #[.string rs] 9)) [rowSs (.slice aq l1.length cq) l1] from hO1.alloc _)
          have Hsrc := Lib.hid (src_one w1 (.string rs) 9 rfl)
          clear hO1 HO0 Hsrc0 pa p0 p1 p2 p3 p4 p5 p6 p7 z0 z1 z2 z3 z4 z5 z6 z7 pf zf
          go_wp2_with (at_builtin; refine wpList_append_src rfl (.tmp 132) (.tmp 134) 23 rfl (.slice aq l1.length cq) l1.length (strs l1) (.slice (some ⟨w1.heap.size, 0, none⟩) 1 1) 1 [.string rs] rfl rfl HO.out i0 (.string ⟨#[]⟩) 16 Tryd.underlying23 hi hi0 hi1 hi2 rfl (by decide) Hsrc.out rfl (by rw [HM1.out]; unfold maxLen; omega) (by rw [HM1.out]; omega) ?_)
          intro v2 w2 hO2
          have hO2 := rowS_push hO2 HRS.out.symm
          obtain ⟨g2, q2, hv3, hg1, hg2, _, _⟩ := hO2.form (by show 0 < (l1 ++ [r]).length; simp)
          have hv2 : v2 = .slice (some ⟨g2, 0, none⟩) (l1 ++ [r]).length q2 := hv3
          clear hv3
          obtain ⟨len2, hlen2⟩ : ∃ len2, (l1 ++ [r]).length = len2 := ⟨_, rfl⟩
          rw [hlen2] at hv2
          subst hv2
          clear hlen2
          have HO2 := Lib.hid hO2
          have hb5 : Below w4.heap.size w4 w2 := hO2.below
          have HA5 := Lib.hid ((hb5.block _ (lt_of_heap HA3.out)).trans HA3.out)
          have HZ5 := Lib.hid ((hb5.block _ (lt_of_heap HZ3.out)).trans HZ3.out)
          have HB5 := Lib.hid (HB3.out.trans (hb5.mono HB3.out.size))
          obtain ⟨p0, p1, p2, p3, p4, p5, p6, p7⟩ := box_cells HA5.out
          obtain ⟨z0, z1, z2, z3, z4, z5, z6, z7⟩ := box_cells HZ5.out
          have pf := fun j => free_at HA5.out j
          have zf := fun j => free_at HZ5.out j
          have hz5 : w.heap.size + 1 + 1 ≤ w2.heap.size := by have := hb5.size; omega
          clear hO2 hb5 HO Hsrc
          go_wp2_with fail
          rw [set_at HA5.out 2]
          have hz4 : (setBlock w2 w.heap.size (.cells (#[.string ns, .slice a0 m0 c0, .slice a1 m1 c1, .slice a2 m2 c2, .slice a3 m3 c3, .slice a4 m4 c4, .slice a5 m5 c5, .int .i64 ru].setIfInBounds 2 (.slice (some ⟨g2, 0, none⟩) len2 q2)) 31)).heap[w.heap.size + 1]? = some (.cells #[.string ⟨#[]⟩, .slice none 0 0, .slice none 0 0, .slice none 0 0, .slice none 0 0, .slice none 0 0, .slice none 0 0, .int .i64 0] 31) := ((setBlock_heap _ _ _ (lt_of_heap HA5.out)).2.1 _ (by omega)).trans HZ5.out
          rw [set8_eq hz4]
          have hbU := below_turn HB5.out (Nat.le_refl _) (by omega) (b := w.heap.size) (.cells (#[.string ns, .slice a0 m0 c0, .slice a1 m1 c1, .slice a2 m2 c2, .slice a3 m3 c3, .slice a4 m4 c4, .slice a5 m5 c5, .int .i64 ru].setIfInBounds 2 (.slice (some ⟨g2, 0, none⟩) len2 q2)) 31)
          have hbV := below_turn hbU (Nat.le_succ _) hbU.size (b := w.heap.size + 1) (.cells #[.string ns, .slice a0 m0 c0, .slice (some ⟨g2, 0, none⟩) len2 q2, .slice a2 m2 c2, .slice a3 m3 c3, .slice a4 m4 c4, .slice a5 m5 c5, .int .i64 ru] 31)
          have hf := StsQ.fresh (Q := fun g => Q g ∧ g ≠ w.heap.size ∧ g ≠ w.heap.size + 1) HO2.out (by simp) (fun g hg => by
            have hg' : w4.heap.size ≤ g := hg
            exact ⟨HQ.out g (by omega), by omega, by omega⟩)
          have hf2 := ((hf.turn (lt_of_heap HA5.out) (fun e => e.2.1 rfl) (.cells (#[.string ns, .slice a0 m0 c0, .slice a1 m1 c1, .slice a2 m2 c2, .slice a3 m3 c3, .slice a4 m4 c4, .slice a5 m5 c5, .int .i64 ru].setIfInBounds 2 (.slice (some ⟨g2, 0, none⟩) len2 q2)) 31)).turn (lt_of_heap hz4) (fun e => e.2.2 rfl) (.cells #[.string ns, .slice a0 m0 c0, .slice (some ⟨g2, 0, none⟩) len2 q2, .slice a2 m2 c2, .slice a3 m3 c3, .slice a4 m4 c4, .slice a5 m5 c5, .int .i64 ru] 31)).imp (R := Q) fun g _ e => e.1
          refine bodyPost_ret (ret_line rfl rfl (setBlock_heap _ _ _ (lt_of_heap hz4)).1) rfl ?_
          rw [HD.out]
          exact ⟨⟨_, rfl, _, _, _, _, _, _, l0, (l1 ++ [r]), l2, l3, l4, l5, by rw [← HNS.out, ← HRU.out]; rfl, rfl, ⟨(HB.out.later hbV).s0, hf2, (HB.out.later hbV).s2, (HB.out.later hbV).s3, (HB.out.later hbV).s4, (HB.out.later hbV).s5⟩⟩, hbV⟩
end Go.Proofs.YtmnohaefklglfaaDoor
