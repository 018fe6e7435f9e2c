/- Lists of records: are two the same? A list in new memory. -/
import Derived.Test.YtpebpchnkhbcfaaLMem
import Derived.Laws.Strings
namespace Go.Proofs.Ytpebpchnkhbcfaa
open Go.RowKit
set_option linter.unusedVariables false
set_option linter.unusedSimpArgs false

theorem Parts.drewN {w : World} {a : Option Addr} {PS : List (Value × List Int)} (h : Parts w a PS) (n : Nat) : Parts (w.drewN n) a PS := h.later ⟨rfl, rfl, rfl, Nat.le_refl _, fun _ _ => rfl⟩
theorem sb_strOfNums (zs : List Int) (h : Byts zs) : sb (strOfNums zs) = zs := by
  unfold sb strOfNums
  simp only [List.map_map]
  conv => rhs; rw [← List.map_id zs]
  refine List.map_congr_left fun z hz => ?_
  have := h z hz
  simp
  omega
theorem strOfNums_size (zs : List Int) : (strOfNums zs).size = zs.length := by
  show (List.toArray _).size = _
  simp
theorem str_same (a b : List Int) (ha : Byts a) (hb : Byts b) : ((strOfNums a).toList == (strOfNums b).toList) = decide (a = b) := by
  by_cases h : a = b
  · subst h; simp
  · rw [decide_eq_false h, Bool.eq_false_iff]
    intro e
    refine h ?_
    have e1 : (strOfNums a).toList = (strOfNums b).toList := by simpa using e
    rw [ByteArray.toList_eq, ByteArray.toList_eq] at e1
    rw [← sb_strOfNums a ha, ← sb_strOfNums b hb]
    unfold sb
    rw [e1]

set_option maxHeartbeats 1600000 in
set_option maxRecDepth 100000 in
theorem same_any (a b : Option Addr) (c1 c2 : Nat) (PS QS : List (Value × List Int)) (w : World) (h : Parts w a PS) (k : Parts w b QS) (h1 : PS.length ≤ maxLen) (h2 : QS.length ≤ maxLen) :
    Calls Try.prog 13 #[.slice a PS.length c1, .slice b QS.length c2] w fun e w' => e = .returned (.bool (decide (PS.map (·.2) = QS.map (·.2)))) ∧ ∃ m, w' = w.drewN m := by
  unfold maxLen at h1 h2
  have H := Lib.hid h
  have K := Lib.hid k
  clear h k
  by_cases hl : PS.length = QS.length
  · have hb : (((PS.length : Nat) : Int) != ((QS.length : Nat) : Int)) = false := by rw [hl]; simp
    have Hl := Lib.hid hl
    clear hl
    go_enter Try.func13, Try.ntmps13
    go_wp2_with fail
    clear hb
    go_loopw [14] (fun i wr => ∃ j m : Nat, j ≤ PS.length ∧ i = .int .i64 j ∧ wr = w.drewN m ∧ (PS.map (·.2)).take j = (QS.map (·.2)).take j) (fun i _ => PS.length - (intOf i).toNat)
    case atStart => exact ⟨0, 0, Nat.zero_le _, rfl, rfl, by simp⟩
    case round =>
      obtain ⟨j, m, hj, rfl, rfl, hT⟩ := hrel
      by_cases hlt : j < PS.length
      · have hlt2 : j < QS.length := by rw [← Hl.out]; exact hlt
        obtain ⟨g, o, rfl, hc, hy⟩ := (H.out.drewN m) j hlt
        obtain ⟨g', o', rfl, hc', hy'⟩ := (K.out.drewN m) j hlt2
        have hcv := hy.toStr
        have hcv' := hy'.toStr
        have hcw := hy.drew.toStr
        have hcw' := hy'.drew.toStr
        have hs := str_same PS[j].2 QS[j].2 hy.2.1 hy'.2.1
        have hTs : PS[j].2 = QS[j].2 → (PS.map (·.2)).take (j + 1) = (QS.map (·.2)).take (j + 1) := fun e => by
          rw [List.take_succ_eq_append_getElem (by simpa using hlt), List.take_succ_eq_append_getElem (by simpa using hlt2), hT]
          simp [e]
        have hTn : PS[j].2 ≠ QS[j].2 → PS.map (·.2) ≠ QS.map (·.2) := fun e e2 => e (by
          have := congrArg (fun l => l[j]?) e2
          simpa [hlt, hlt2] using this)
        have HTs := Lib.hid hTs
        have HTn := Lib.hid hTn
        clear hTs hTn hT
        obtain ⟨a1, c1', hv1, _, _⟩ := hy.2.2
        obtain ⟨a2, c2', hv2, _, _⟩ := hy'.2.2
        clear hy hy'
        generalize PS[j].2 = zs at *
        generalize QS[j].2 = ys at *
        have hq0 : (0 : Int) ≤ (j : Int) := by omega
        have hq1 : (j : Int) < ((QS.length : Nat) : Int) := by omega
        rw [hv1] at hc hcv hcw
        rw [hv2] at hc' hcv' hcw'
        clear hv1 hv2
        have Hd := Lib.hid (show (w.drewN m).drew = w.drewN (m + 1) from rfl)
        generalize w.drewN m = wm at *
        by_cases he : zs = ys
        · have hs' : ((strOfNums zs).toList == (strOfNums ys).toList) = true := by rw [hs]; simp [he]
          have HE := Lib.hid (HTs.out he)
          clear hs he HTs HTn
          go_wp2_with fail
          go_region
          all_goals go_wp2_with fail
          all_goals exact ⟨⟨j + 1, m + 1, by omega, by go_num, Hd.out, HE.out⟩, by simp [intOf]; omega⟩
        · have hs' : ((strOfNums zs).toList == (strOfNums ys).toList) = false := by rw [hs]; simp [he]
          have HE := Lib.hid (HTn.out he)
          clear hs he HTs HTn
          go_wp2_with fail
          go_region
          all_goals go_wp2_with fail
          all_goals go_ret
          all_goals exact ⟨by simp [HE.out], _, Hd.out⟩
      · obtain rfl : j = PS.length := by omega
        have HE := Lib.hid (show PS.map (·.2) = QS.map (·.2) by
          rw [List.take_of_length_le (by simp), List.take_of_length_le (by simp [Hl.out])] at hT
          exact hT)
        clear hT
        go_wp2_with fail
        go_ret
        exact ⟨by simp [HE.out], _, rfl⟩
  · have hb : (((PS.length : Nat) : Int) != ((QS.length : Nat) : Int)) = true := by simp; omega
    have HE := Lib.hid (show PS.map (·.2) ≠ QS.map (·.2) from fun e => hl (by simpa using congrArg List.length e))
    clear hl
    go_enter Try.func13, Try.ntmps13
    go_wp2_with fail
    go_ret
    exact ⟨by simp [HE.out], 0, rfl⟩

set_option maxHeartbeats 1600000 in
set_option maxRecDepth 100000 in
theorem copies_any (a : Option Addr) (c : Nat) (PS : List (Value × List Int)) (w : World) (h : Parts w a PS) (hn : PS.length ≤ 1000000) (hl : ∀ p ∈ PS, p.2.length ≤ 140737488355328) :
    Calls Try.prog 29 #[.slice a PS.length c] w fun e w' => ∃ lv vs M, e = .returned lv ∧ Own w w' (rowV lv vs :: M) ∧ Lst M vs (PS.map (·.2)) := by
  obtain ⟨i0, hi, hz0, hz1, hz2⟩ := info_parts info_v
  have H := Lib.hid h
  have Hl := Lib.hid hl
  clear h hl
  go_enter Try.func29, Try.ntmps29
  go_wp2_with fail
  go_loopw [3, 8] (fun lv t wr => ∃ (k : Nat) (vs : List Value) (M : List Rw), k ≤ PS.length ∧ t = .int .i64 k ∧ Own w wr (rowV lv vs :: M) ∧ Lst M vs ((PS.map (·.2)).take k)) (fun _ t _ => PS.length - (intOf t).toNat)
  case atStart => exact ⟨0, [], [], Nat.zero_le _, rfl, (Own.start w).nil _ _, by simpa using Lst.nil []⟩
  case round =>
    obtain ⟨k, vs, M, hk, rfl, hO, hL⟩ := hrel
    by_cases hlt : k < PS.length
    · obtain ⟨g, o, rfl, hc, hy⟩ := (H.out.later hO.below) k hlt
      have hT : (PS.map (·.2)).take (k + 1) = (PS.map (·.2)).take k ++ [PS[k].2] := by
        rw [List.take_succ_eq_append_getElem (by simpa using hlt), List.getElem_map]
      have hvl : vs.length = k := by rw [hL.1, List.length_take, List.length_map]; omega
      have hlen := Hl.out PS[k] (List.getElem_mem hlt)
      have hz := hy.2.1
      have HT := Lib.hid hT
      have HO := Lib.hid hO
      have HL := Lib.hid hL
      have Hy := Lib.hid hy
      have Hz := Lib.hid hz
      have Hvl := Lib.hid hvl
      clear hT hO hL hy hvl
      obtain ⟨a1, c1', hv1, _, _⟩ := Hy.out.2.2
      rw [hv1] at hc Hy
      clear hv1
      generalize PS[k].2 = zs at *
      go_wp2_with fail
      refine (clone_any _ zs wr Hy.out hlen).mono ?_
      rintro e w2 ⟨v2, rfl, hO2⟩
      have HO2 := Lib.hid (HO.out.join hO2)
      have HP := Lib.hid (Pc.all (HO.out.join hO2) Hz.out)
      obtain ⟨a2, k2, c2, rfl⟩ := hO2.form3
      have hO3 := HO2.out.alloc (.cells #[.slice a2 k2 c2] 30)
      have HO3 := Lib.hid (show Own w _ (rowV u3 vs :: (rowU (.slice a2 k2 c2) zs :: M)) from hO3.swap)
      have hsrc : Src (w2.alloc (.cells #[.slice a2 k2 c2] 30)) (.slice (some ⟨w2.heap.size, 0, none⟩) 1 1) 1 [.slice a2 k2 c2] := by
        refine .inr ⟨_, _, rfl, fun j u hj => ?_, fun u hu => by rw [List.mem_singleton.1 hu]; rfl⟩
        rw [Addr.add_mid, Nat.zero_add, World.cell?_alloc_new]
        simpa using hj
      have Hsrc := Lib.hid hsrc
      have HL2 := Lib.hid (show Lst (rowU (.slice a2 k2 c2) zs :: M) (vs ++ [.slice a2 k2 c2]) ((PS.map (·.2)).take (k + 1)) by
        rw [HT.out]
        have hp : Pc (rowU (.slice a2 k2 c2) zs :: M) (.slice a2 k2 c2) zs := by
          have := Pc.all (L := M) ((HO2.out.of_mem (.cons_cons _ (List.sublist_cons_self _ _))) : Own w w2 (rowU (.slice a2 k2 c2) zs :: M)) Hz.out
          exact this
        exact (HL.out.mono fun r hr => List.mem_cons_of_mem _ hr).push hp)
      have hb1 : vs.length + 1 ≤ maxLen := by rw [Hvl.out]; unfold maxLen; omega
      have hb2 : (vs.length + 1) * 24 ≤ 140737488355328 := by rw [Hvl.out]; omega
      have Hb1 := Lib.hid hb1
      have Hb2 := Lib.hid hb2
      clear hO2 hO3 hsrc hb1 hb2 HO2 HP HT HL HO
      go_wp2_with (at_builtin; refine wpList_append_src rfl (.tmp 12) (.tmp 15) 35 rfl u3 vs.length vs (.slice (some ⟨w2.heap.size, 0, none⟩) 1 1) 1 [.slice a2 k2 c2] rfl rfl HO3.out i0 (.slice none 0 0) 24 Try.underlying35 hi hz0 hz1 hz2 rfl (by decide) Hsrc.out (by simp) Hb1.out Hb2.out ?_)
      intro v3 w3 hO4
      have HO4 := Lib.hid (show Own w w3 (rowV v3 (vs ++ [.slice a2 k2 c2]) :: (rowU (.slice a2 k2 c2) zs :: M)) by unfold rowV; rw [List.length_append]; exact hO4)
      clear hO4 HO3 Hsrc
      go_wp2_with fail
      exact ⟨⟨k + 1, _, _, by omega, by go_num, HO4.out, HL2.out⟩, by simp [intOf]; omega⟩
    · obtain rfl : k = PS.length := by omega
      have HO := Lib.hid hO
      have HL := Lib.hid (show Lst M vs (PS.map (·.2)) by rw [List.take_of_length_le (by simp)] at hL; exact hL)
      clear hO hL
      go_wp2_with fail
      go_ret
      exact ⟨_, _, _, rfl, HO.out, HL.out⟩
end Go.Proofs.Ytpebpchnkhbcfaa
