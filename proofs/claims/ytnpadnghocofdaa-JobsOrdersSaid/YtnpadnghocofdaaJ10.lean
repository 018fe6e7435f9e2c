/- The law JobsOrders, walked. -/
import Derived.Test.YtnpadnghocofdaaJ9
namespace Go.Proofs.Ytnpadnghocofdaa
open Go.RowKit
open Go.ChangeMaps (setBlock)
set_option linter.unusedVariables false
set_option linter.unusedSimpArgs false
set_option maxRecDepth 100000

set_option maxHeartbeats 16000000 in
theorem orders15_law (w : World) (v v2 sv tv : Value) (us us2 : List GU) (run hit : List Nm) (h : UArg w v us) (hlen : us.length ≤ maxLen) (h2 : UArg w v2 us2) (hlen2 : us2.length ≤ maxLen) (hsv : Sts w sv run) (htv : Sts w tv hit) :
    Calls Try.prog 7 #[v, v2, sv, tv] w fun e w' => e = .returned (.bool true) ∧ Below w.heap.size w w' := by
  obtain ⟨av, cv, hv⟩ : ∃ a c, v = .slice a us.length c := by obtain ⟨a, c, _, e, _⟩ := h; exact ⟨a, c, e⟩
  obtain ⟨av2, cv2, hv2⟩ : ∃ a c, v2 = .slice a us2.length c := by obtain ⟨a, c, _, e, _⟩ := h2; exact ⟨a, c, e⟩
  have H := Lib.hid h
  have H2 := Lib.hid h2
  have HSv := Lib.hid hsv
  have HTv := Lib.hid htv
  have ka := alive15_any w
  have KS := Lib.hid (fun w1 (hb : Below w.heap.size w w1) => small_any (h.later hb) hlen)
  have KS2 := Lib.hid (fun w1 (hb : Below w.heap.size w w1) => small_any (h2.later hb) hlen2)
  obtain ⟨sa, sc, hsa, hsq, hsm, hsp⟩ := id hsv
  have hsml : (run.length : Int) ≤ 9223372036854775807 := by unfold maxLen at hsm; omega
  obtain ⟨ta, tc, hta, _, htm, _⟩ := id htv
  have html : (hit.length : Int) ≤ 9223372036854775807 := by unfold maxLen at htm; omega
  subst hv hv2 hsa hta
  have hn : (us.length : Int) ≤ 9223372036854775807 := by unfold maxLen at hlen; omega
  have hn2 : (us2.length : Int) ≤ 9223372036854775807 := by unfold maxLen at hlen2; omega
  clear h hlen hsv hsm hsq hsp h2 hlen2 htv htm
  go_enter Try.func7, Try.ntmps7
  go_upto_region 3 with (go_at_call 18; refine ka.mono ?_; rintro e w1 ⟨rfl, hb1⟩; have HB1 := Lib.hid hb1; clear hb1)
  have ks := KS.out w1 HB1.out
  clear KS ka
  go_upto_region 5 with (first
    | (have _g := HR.out; clear _g; go_at_call 10; refine (KS2.out w2 HB2.out).mono ?_; rintro e w3 ⟨hb3, hsm⟩; obtain ⟨r2, rfl, hrr⟩ : ∃ r : Int, e = .returned (.int .i64 r) ∧ (r = 0 ∨ r = 1 ∧ SmallU us2) := (by rcases hsm with rfl | ⟨rfl, h⟩; exact ⟨0, rfl, .inl rfl⟩; exact ⟨1, rfl, .inr ⟨rfl, h⟩⟩); have HB3 := Lib.hid (HB2.out.trans (hb3.mono HB2.out.size)); have HR2 := Lib.hid hrr; clear hb3 hsm hrr)
    | (go_at_call 10; refine ks.mono ?_; rintro e w2 ⟨hb2, hsm⟩; obtain ⟨r, rfl, hrr⟩ : ∃ r : Int, e = .returned (.int .i64 r) ∧ (r = 0 ∨ r = 1 ∧ SmallU us) := (by rcases hsm with rfl | ⟨rfl, h⟩; exact ⟨0, rfl, .inl rfl⟩; exact ⟨1, rfl, .inr ⟨rfl, h⟩⟩); have HB2 := Lib.hid (HB1.out.trans (hb2.mono HB1.out.size)); have HR := Lib.hid hrr; clear hb2 hsm hrr))
  all_goals try (go_ret; first | exact ⟨rfl, HB3.out⟩ | exact ⟨rfl, HB2.out⟩)
  have hr0 : ¬ r = 0 := by assumption
  have hr20 : ¬ r2 = 0 := by assumption
  have hs20 : (((r == 0) = false ∧ (r2 == 0) = false) ∧ (run.length : Int) ≤ 20) ∧ (hit.length : Int) ≤ 20 := by assumption
  have hS : SmallU us := HR.out.elim (fun h => absurd h hr0) (fun h => h.2)
  have hS2 : SmallU us2 := HR2.out.elim (fun h => absurd h hr20) (fun h => h.2)
  have hsl : (run.length : Int) ≤ 20 := hs20.1.2
  have htl : (hit.length : Int) ≤ 20 := hs20.2
  have hU := H.out.later HB3.out
  have hn20 : (us.length : Int) ≤ 20 := by have := hS.1; omega
  have hn220 : (us2.length : Int) ≤ 20 := by have := hS2.1; omega
  have kn := new_any hU (by omega) (fun n hn => by have := hS.names n hn; omega) hS.bnd
  have KN := Lib.hid (fun w4 (hb : Below w.heap.size w w4) => new_any (H2.out.later hb) (by omega) (fun n hn => by have := hS2.names n hn; omega) hS2.bnd)
  clear ks hU hS hS2 hr0 hr20 hs20 HR HR2
  by_cases hE : errU us = 0
  · have kn1 : Calls Try.prog 11 #[.slice av us.length cv] w3 fun e w' => ∃ g nb, e = .returned (.tuple #[.pointer (some ⟨g, 0, none⟩), .int .i64 0, .string nb]) ∧ GAt w' g us (ordU us) ∧ Below w3.heap.size w3 w' := kn.mono fun e w' hp => by
      obtain ⟨gv, n, rfl, hb, _, hg, _⟩ := hp
      obtain ⟨g, rfl, hG⟩ := hg hE
      exact ⟨g, _, by rw [hE], hG, hb⟩
    have HE := Lib.hid hE
    clear kn hE
    go_upto_region 6 with (go_at_call 11; refine kn1.mono ?_; rintro e w4 ⟨g, nb, rfl, hG, hb4⟩; have HG := Lib.hid hG; have HB4 := Lib.hid (HB3.out.trans (hb4.mono HB3.out.size)); clear hG hb4)
    have kn := KN.out w4 HB4.out
    clear KN kn1
    by_cases hE2 : errU us2 = 0
    · have kn2 : Calls Try.prog 11 #[.slice av2 us2.length cv2] w4 fun e w' => ∃ g nb, e = .returned (.tuple #[.pointer (some ⟨g, 0, none⟩), .int .i64 0, .string nb]) ∧ GAt w' g us2 (ordU us2) ∧ Below w4.heap.size w4 w' := kn.mono fun e w' hp => by
        obtain ⟨gv, n, rfl, hb, _, hg, _⟩ := hp
        obtain ⟨g, rfl, hG⟩ := hg hE2
        exact ⟨g, _, by rw [hE2], hG, hb⟩
      have HE2 := Lib.hid hE2
      clear kn hE2
      go_upto_region 9 with (go_at_call 11; refine kn2.mono ?_; rintro e w5 ⟨h, nb2, rfl, hH, hb5⟩; have HH := Lib.hid hH; have HG5 := Lib.hid (HG.out.later hb5); have HB5 := Lib.hid (HB4.out.trans (hb5.mono HB4.out.size)); clear hH hb5)
      have kr := (restart_any HG5.out HH.out (HSv.out.later HB5.out) (HTv.out.later HB5.out)).mono plan_gen
      clear kn2
      go_upto_region 10 with (first
        | (refine wpList_store_new rfl 42 (.tmp 15) (.tmp 70) rfl H6.out [_, _] w6.heap.size rfl rfl rfl rfl info_plan (plan_cells _ _ _ _ _ _ _ _ rfl rfl) ?_)
        | (go_at_call 19; refine kr.mono ?_; rintro e w6 ⟨l, a1, n1, c1, a2, n2, c2, rfl, hJ, hn1, hn2, hO⟩; have HJ := Lib.hid hJ; have HN1 := Lib.hid hn1; have HN2 := Lib.hid hn2; have H6 := Lib.hid hO; clear hO hJ hn1 hn2))
      intro w7 hO7 _
      have HP0 := Lib.hid (show w7.cell? ⟨w6.heap.size, 0, none⟩ = some (.slice a1 n1 c1) from hO7.cell 0 (by decide))
      have HP1 := Lib.hid (show w7.cell? ⟨w6.heap.size, 1, none⟩ = some (.slice a2 n2 c2) from hO7.cell 1 (by decide))
      have HS1 := Lib.hid (show Sts w7 (.slice a1 n1 c1) (stopN us run l).reverse from hO7.tail.sts)
      have HS2 := Lib.hid (show Sts w7 (.slice a2 n2 c2) (pick (ordU us2) (stopN us run l)) from hO7.tail.tail.sts)
      have HB7 := Lib.hid (HB5.out.trans (hO7.below.mono HB5.out.size))
      have HG7 := Lib.hid (fun (W : World) (hO : Own w7 W []) => (HG5.out.later hO7.below).later hO.below)
      have HH7 := Lib.hid (fun (W : World) (hO : Own w7 W []) => (HH.out.later hO7.below).later hO.below)
      have HR7 := Lib.hid (fun (W : World) (hO : Own w7 W []) => HSv.out.later (HB7.out.trans (hO.below.mono HB7.out.size)))
      have HT7 := Lib.hid (fun (W : World) (hO : Own w7 W []) => HTv.out.later (HB7.out.trans (hO.below.mono HB7.out.size)))
      have HF1 := Lib.hid (show ∀ i (hi : i < (stopN us run l).reverse.length), (stopN us run l).reverse[i] ∈ run ∧ (stopN us run l).reverse[i] ∈ l from fun i hi => stop_mem (us := us) (run := run) (l := l) (List.getElem_mem hi))
      have HF2 := Lib.hid (show ∀ i (hi : i < (stopN us run l).reverse.length) x, x ∈ (if (stopN us run l).reverse[i] ∈ namesU us then aheadU us (stopN us run l).reverse[i] else []) → decide (x ∈ (stopN us run l).reverse.take i) = false from fun i hi x hx => stop_ok HE.out (stopN_sub us run l) hi (behind_mem hx))
      have HF3 := Lib.hid (show ∀ i (hi : i < (pick (ordU us2) (stopN us run l)).length), (pick (ordU us2) (stopN us run l))[i] ∈ (stopN us run l).reverse from fun i hi => start_mem (us2 := us2) (List.getElem_mem hi))
      have HF4 := Lib.hid (show ∀ i (hi : i < (pick (ordU us2) (stopN us run l)).length) x, x ∈ (if (pick (ordU us2) (stopN us run l))[i] ∈ namesU us2 then aheadU us2 (pick (ordU us2) (stopN us run l))[i] else []) → decide (x ∈ (pick (ordU us2) (stopN us run l)).drop i) = false from fun i hi x hx => start_ok HE2.out List.filter_sublist hi (behind_mem hx))
      have HF5 := Lib.hid (show ∀ n, n ∈ hit → n ∈ namesU us → n ∈ run → n ∈ (stopN us run l).reverse from fun n h1 h2 h3 => hit_stop HE.out HJ.out h1 h2 h3)
      have hz1 : (n1 : Int) ≤ 1000000 := by
        have h1 := (stopN_sub us run l).length_le
        have h2 := (ordU_perm HE.out).length_eq
        have h3 : (namesU us).length = us.length := by unfold namesU; rw [List.length_map]
        have h4 := HN1.out
        rw [List.length_reverse] at h4
        omega
      have hz2 : (n2 : Int) ≤ 1000000 := by
        have h1 := pick_len (ordU us2) (stopN us run l)
        have h2 := (ordU_perm HE2.out).length_eq
        have h3 : (namesU us2).length = us2.length := by unfold namesU; rw [List.length_map]
        have h4 := HN2.out
        omega
      have HZ2 := Lib.hid hz2
      have HTL := Lib.hid htl
      clear hO7 kr H6 HG5 HH hz2
      generalize w6.heap.size = b15 at *
      generalize (stopN us run l).reverse = SR at *
      generalize pick (ordU us2) (stopN us run l) = TR at *
      have hp0 := HP0.out
      go_wp2_with fail
      go_loopw [74] (fun s74 wr => ∃ i : Nat, i ≤ n1 ∧ s74 = .int .i64 i ∧ Own w7 wr []) (fun s74 _ => n1 - (intOf s74).toNat)
      case atStart => exact ⟨0, Nat.zero_le _, rfl, Own.start w7⟩
      case round =>
        obtain ⟨i, hi, rfl, hO⟩ := hrel
        by_cases hlt : i < n1
        · have hil : i < SR.length := by rw [← HN1.out]; exact hlt
          obtain ⟨b, o, rfl, ci⟩ := sts_cell (HS1.out.later hO.below) HN1.out hil
          have kh1 := has15_any (.slice sa run.length sc) run SR[i] wr (HR7.out wr hO)
          rw [decide_eq_true (HF1.out i hil).1] at kh1
          have kl := (HG7.out wr hO).lean_of (HT7.out wr hO) HJ.out (fun n h1 h2 => .base h1 h2) (fun n h1 h2 => .base h1 h2)
          have KH2 := Lib.hid (fun (W : World) (vL : Value) (h : Sts W vL l) => (show Calls Try.prog 23 #[vL, .string (toB SR[i])] W fun e w' => e = .returned (.bool true) ∧ W = w' from by
            have := has15_any vL l SR[i] W h
            rwa [decide_eq_true (HF1.out i hil).2] at this))
          have KB := Lib.hid (fun (W : World) (hO : Own w7 W []) => (HG7.out W hO).behind SR[i])
          have HFB := Lib.hid (HF2.out i hil)
          have HO := Lib.hid hO
          have hiz : (i : Int) < (n1 : Int) := by omega
          obtain ⟨x, hx⟩ : ∃ x, SR[i] = x := ⟨_, rfl⟩
          rw [hx] at ci kh1 KH2 KB HFB
          generalize (if x ∈ namesU us then aheadU us x else []) = B at *
          generalize toB x = xb at *
          clear hO hil hx
          go_upto_region 15 with (first
            | (have _g := HL.out; clear _g; go_at_call 23; refine (KH2.out _ _ HL.out).mono ?_; rintro e w9 ⟨rfl, rfl⟩)
            | (go_at_call 14; refine kl.mono ?_; rintro e w8 ⟨vL, rfl, hs, hb⟩; obtain ⟨aL, nL, cL, rfl⟩ := hs.shape; have HL := Lib.hid hs; have HO8 := Lib.hid (Own.of_below (HO.out.below.trans (hb.mono HO.out.below.size))); clear hs hb)
            | (go_at_call 23; refine kh1.mono ?_; rintro e w9 ⟨rfl, rfl⟩))
          have kb := KB.out w8 HO8.out
          clear kh1 kl ci
          go_wp2_with (go_at_call 29; refine kb.mono ?_; rintro e w9 ⟨vB, rfl, hOB⟩; obtain ⟨aB, nB, cB, rfl⟩ := hOB.sts.shape; have HBS := Lib.hid hOB.sts; have HO9 := Lib.hid (Own.of_below (HO8.out.below.trans (hOB.below.mono HO8.out.below.size))); clear hOB)
          obtain ⟨hnB, hnc, hcB⟩ := sts_big HBS.out
          have hnBz : (nB : Int) ≤ 9223372036854775807 := by unfold maxLen at hcB; omega
          have HNB := Lib.hid hnB
          clear hnB hnc hcB kb
          have hS1 := HS1.out.later HO9.out.below
          have p0 := cell_kept HO9.out.below HP0.out
          obtain ⟨he9, hic, hcm⟩ := sts_big hS1
          have hicz : (i : Int) ≤ (c1 : Int) ∧ (n1 : Int) ≤ (c1 : Int) := by omega
          have hcmz : (c1 : Int) ≤ 9223372036854775807 := by unfold maxLen at hcm; omega
          have HTk := Lib.hid (hS1.take i (by have := HN1.out; omega))
          clear hS1 hic hcm he9
          go_loopw [95] (fun s95 wq => ∃ j : Nat, j ≤ nB ∧ s95 = .int .i64 j ∧ w9 = wq) (fun s95 _ => nB - (intOf s95).toNat)
          case atStart => exact ⟨0, Nat.zero_le _, rfl, rfl⟩
          case round =>
            obtain ⟨j, hj, rfl, rfl⟩ := hrel
            by_cases hjt : j < nB
            · have hjl : j < B.length := by rw [← HNB.out]; exact hjt
              obtain ⟨bb, oo, rfl, cj⟩ := sts_cell HBS.out HNB.out hjl
              have kh3 := has15_any _ _ B[j] w9 HTk.out
              rw [HFB.out B[j] (List.getElem_mem hjl)] at kh3
              have hjz : (j : Int) < (nB : Int) := by omega
              generalize toB B[j] = yb at *
              clear hjl
              go_wp2_with (go_at_call 23; refine kh3.mono ?_; rintro e w10 ⟨rfl, rfl⟩)
              go_roundw
              case rel => exact ⟨j + 1, by omega, by go_num, trivial⟩
              case measure => simp [intOf]; omega
            · have hjz : (nB : Int) ≤ (j : Int) := by omega
              go_wp2_with fail
              go_roundw
              case rel => exact ⟨i + 1, by omega, by go_num, HO9.out⟩
              case measure => simp [intOf]; omega
        · have hiz : (n1 : Int) ≤ (i : Int) := by omega
          have HO := Lib.hid hO
          have p1 := cell_kept hO.below HP1.out
          clear hO hp0
          go_wp2_with fail
          have hz2 := HZ2.out
          clear p1 hiz
          have HO7 := Lib.hid (HO.out)
          go_loopw [110] (fun s110 wr => ∃ k : Nat, k ≤ n2 ∧ s110 = .int .i64 k ∧ Own w7 wr []) (fun s110 _ => n2 - (intOf s110).toNat)
          case atStart => exact ⟨0, Nat.zero_le _, rfl, HO.out⟩
          case round =>
            obtain ⟨k, hk, rfl, hO2⟩ := hrel
            by_cases hkt : k < n2
            · have hkl : k < TR.length := by rw [← HN2.out]; exact hkt
              obtain ⟨b, o, rfl, ck⟩ := sts_cell (HS2.out.later hO2.below) HN2.out hkl
              have kh1 := has15_any _ SR TR[k] wr (HS1.out.later hO2.below)
              rw [decide_eq_true (HF3.out k hkl)] at kh1
              have kb := (HH7.out wr hO2).behind TR[k]
              have HFB := Lib.hid (HF4.out k hkl)
              have p0 := cell_kept hO2.below HP0.out
              have HO2 := Lib.hid hO2
              have hkz : (k : Int) < (n2 : Int) := by omega
              obtain ⟨x, hx⟩ : ∃ x, TR[k] = x := ⟨_, rfl⟩
              rw [hx] at ck kh1 kb HFB
              generalize (if x ∈ namesU us2 then aheadU us2 x else []) = B at *
              generalize toB x = xb at *
              clear hO2 hkl hx
              go_wp2_with (first
                | (go_at_call 29; refine kb.mono ?_; rintro e w9 ⟨vB, rfl, hOB⟩; obtain ⟨aB, nB, cB, rfl⟩ := hOB.sts.shape; have HBS := Lib.hid hOB.sts; have HO9 := Lib.hid (Own.of_below (HO2.out.below.trans (hOB.below.mono HO2.out.below.size))); clear hOB)
                | (go_at_call 23; refine kh1.mono ?_; rintro e w9 ⟨rfl, rfl⟩))
              obtain ⟨hnB, hnc, hcB⟩ := sts_big HBS.out
              have hnBz : (nB : Int) ≤ 9223372036854775807 := by unfold maxLen at hcB; omega
              have HNB := Lib.hid hnB
              clear hnB hnc hcB kb kh1 ck p0
              have hS2 := HS2.out.later HO9.out.below
              have p1 := cell_kept HO9.out.below HP1.out
              obtain ⟨he9, hic, hcm⟩ := sts_big hS2
              have hicz : (k : Int) ≤ (c2 : Int) ∧ (n2 : Int) ≤ (c2 : Int) := by omega
              have hcmz : (c2 : Int) ≤ 9223372036854775807 := by unfold maxLen at hcm; omega
              have HTk := Lib.hid (sts_drop hS2 k (by omega))
              clear hS2 hic hcm he9
              go_loopw [124] (fun s124 wq => ∃ j : Nat, j ≤ nB ∧ s124 = .int .i64 j ∧ w9 = wq) (fun s124 _ => nB - (intOf s124).toNat)
              case atStart => exact ⟨0, Nat.zero_le _, rfl, rfl⟩
              case round =>
                obtain ⟨j, hj, rfl, rfl⟩ := hrel
                by_cases hjt : j < nB
                · have hjl : j < B.length := by rw [← HNB.out]; exact hjt
                  obtain ⟨bb, oo, rfl, cj⟩ := sts_cell HBS.out HNB.out hjl
                  have kh3 := has15_any _ _ B[j] w9 HTk.out
                  rw [HFB.out B[j] (List.getElem_mem hjl)] at kh3
                  have hjz : (j : Int) < (nB : Int) := by omega
                  generalize toB B[j] = yb at *
                  clear hjl
                  go_wp2_with (go_at_call 23; refine kh3.mono ?_; rintro e w10 ⟨rfl, rfl⟩)
                  go_roundw
                  case rel => exact ⟨j + 1, by omega, by go_num, trivial⟩
                  case measure => simp [intOf]; omega
                · have hjz : (nB : Int) ≤ (j : Int) := by omega
                  go_wp2_with fail
                  go_roundw
                  case rel => exact ⟨k + 1, by omega, by go_num, HO9.out⟩
                  case measure => simp [intOf]; omega
            · have hkz : (n2 : Int) ≤ (k : Int) := by omega
              have htl := HTL.out
              have HO2 := Lib.hid hO2
              clear hO2
              go_wp2_with fail
              go_loopw [138] (fun s138 wr => ∃ q : Nat, q ≤ hit.length ∧ s138 = .int .i64 q ∧ Own w7 wr []) (fun s138 _ => hit.length - (intOf s138).toNat)
              case atStart => exact ⟨0, Nat.zero_le _, rfl, HO2.out⟩
              case round =>
                obtain ⟨q, hq, rfl, hO3⟩ := hrel
                by_cases hqt : q < hit.length
                · obtain ⟨b, o, rfl, cq⟩ := sts_cell (HT7.out wr hO3) rfl hqt
                  have kg := (HG7.out wr hO3).get hit[q]
                  have KH1 := Lib.hid (fun (W : World) (hO : Own w7 W []) => has15_any (.slice sa run.length sc) run hit[q] W (HR7.out W hO))
                  have KH2 := Lib.hid (fun (W : World) (hO : Own w7 W []) => has15_any (.slice a1 n1 c1) SR hit[q] W (HS1.out.later hO.below))
                  have HFq := Lib.hid (HF5.out hit[q] (List.getElem_mem hqt))
                  have hqz : (q : Int) < (hit.length : Int) := by omega
                  have HO3 := Lib.hid hO3
                  obtain ⟨x, hx⟩ : ∃ x, hit[q] = x := ⟨_, rfl⟩
                  rw [hx] at cq kg KH1 KH2 HFq
                  clear hO3 hx
                  by_cases hok : x ∈ namesU us
                  · rw [decide_eq_true hok] at kg
                    by_cases hrn : x ∈ run
                    · rw [decide_eq_true hrn] at KH1
                      rw [decide_eq_true (HFq.out hok hrn)] at KH2
                      clear hok hrn HFq
                      generalize toB x = xb at *
                      go_upto_region 38 with (first
                        | (refine wpList_store_new rfl 34 (.tmp 26) (.tmp 146) rfl H20.out cs w20.heap.size rfl rfl rfl HL8.out.symm (HL8.out ▸ info_uv) HON.out ?_)
                        | (go_at_call 30; refine kg.mono ?_; rintro e w20 ⟨cs, hl8, hone, rfl, hb20⟩; have H20 := Lib.hid (Own.of_below (HO3.out.below.trans (hb20.mono HO3.out.below.size))); have HL8 := Lib.hid hl8; have HON := Lib.hid hone; clear hl8 hone hb20))
                      intro w21 hO21 _
                      have HO21 := Lib.hid hO21.tail
                      clear hO21
                      have p0 := cell_kept HO21.out.below HP0.out
                      have kh1 := KH1.out w21 HO21.out
                      have kh2 := KH2.out w21 HO21.out
                      go_wp2_with (first
                        | (have _g := HX1.out; clear _g; go_at_call 23; refine kh2.mono ?_; rintro e w10 ⟨rfl, rfl⟩)
                        | (go_at_call 23; refine kh1.mono ?_; rintro e w10 ⟨rfl, rfl⟩; have HX1 := Lib.hid True.intro))
                      go_roundw
                      case rel => exact ⟨q + 1, by omega, by go_num, HO21.out⟩
                      case measure => simp [intOf]; omega
                    · rw [decide_eq_false hrn] at KH1
                      clear hok hrn HFq
                      generalize toB x = xb at *
                      go_upto_region 38 with (first
                        | (refine wpList_store_new rfl 34 (.tmp 26) (.tmp 146) rfl H20.out cs w20.heap.size rfl rfl rfl HL8.out.symm (HL8.out ▸ info_uv) HON.out ?_)
                        | (go_at_call 30; refine kg.mono ?_; rintro e w20 ⟨cs, hl8, hone, rfl, hb20⟩; have H20 := Lib.hid (Own.of_below (HO3.out.below.trans (hb20.mono HO3.out.below.size))); have HL8 := Lib.hid hl8; have HON := Lib.hid hone; clear hl8 hone hb20))
                      intro w21 hO21 _
                      have HO21 := Lib.hid hO21.tail
                      clear hO21
                      have kh1 := KH1.out w21 HO21.out
                      go_wp2_with (go_at_call 23; refine kh1.mono ?_; rintro e w10 ⟨rfl, rfl⟩)
                      go_roundw
                      case rel => exact ⟨q + 1, by omega, by go_num, HO21.out⟩
                      case measure => simp [intOf]; omega
                  · rw [decide_eq_false hok] at kg
                    clear hok HFq
                    generalize toB x = xb at *
                    go_upto_region 38 with (first
                      | (refine wpList_store_new rfl 34 (.tmp 26) (.tmp 146) rfl H20.out cs w20.heap.size rfl rfl rfl HL8.out.symm (HL8.out ▸ info_uv) HON.out ?_)
                      | (go_at_call 30; refine kg.mono ?_; rintro e w20 ⟨cs, hl8, hone, rfl, hb20⟩; have H20 := Lib.hid (Own.of_below (HO3.out.below.trans (hb20.mono HO3.out.below.size))); have HL8 := Lib.hid hl8; have HON := Lib.hid hone; clear hl8 hone hb20))
                    intro w21 hO21 _
                    have HO21 := Lib.hid hO21.tail
                    clear hO21
                    go_wp2_with fail
                    go_roundw
                    case rel => exact ⟨q + 1, by omega, by go_num, HO21.out⟩
                    case measure => simp [intOf]; omega
                · have hqz : (hit.length : Int) ≤ (q : Int) := by omega
                  have HBx := Lib.hid (HB7.out.trans (hO3.below.mono HB7.out.size))
                  clear hO3
                  go_wp2_with fail
                  go_ret
                  exact ⟨rfl, HBx.out⟩
    · have kn2 : Calls Try.prog 11 #[.slice av2 us2.length cv2] w4 fun e w' => ∃ gv x nb, e = .returned (.tuple #[gv, .int .i64 x, .string nb]) ∧ x ≠ 0 ∧ Below w4.heap.size w4 w' := kn.mono fun e w' hp => by
        obtain ⟨gv, n, rfl, hb, _⟩ := hp
        exact ⟨gv, _, _, rfl, hE2, hb⟩
      clear kn hE2
      go_wp2_with (go_at_call 11; refine kn2.mono ?_; rintro e w5 ⟨gv, x, nb2, rfl, hx, hb5⟩; have HB5 := Lib.hid (HB4.out.trans (hb5.mono HB4.out.size)); have hx2 : (x == 0) = false := beq_eq_false_iff_ne.2 hx; clear hx hb5)
      go_ret
      exact ⟨rfl, HB5.out⟩
  · have kn1 : Calls Try.prog 11 #[.slice av us.length cv] w3 fun e w' => ∃ gv x nb, e = .returned (.tuple #[gv, .int .i64 x, .string nb]) ∧ x ≠ 0 ∧ Below w3.heap.size w3 w' := kn.mono fun e w' hp => by
      obtain ⟨gv, n, rfl, hb, _⟩ := hp
      exact ⟨gv, _, _, rfl, hE, hb⟩
    clear kn hE
    go_upto_region 6 with (go_at_call 11; refine kn1.mono ?_; rintro e w4 ⟨gv, x, nb, rfl, hx, hb4⟩; have HB4 := Lib.hid (HB3.out.trans (hb4.mono HB3.out.size)); have hx2 : (x == 0) = false := beq_eq_false_iff_ne.2 hx; clear hx hb4)
    have kn2 : Calls Try.prog 11 #[.slice av2 us2.length cv2] w4 fun e w' => ∃ gv x nb, e = .returned (.tuple #[gv, .int .i64 x, .string nb]) ∧ Below w4.heap.size w4 w' := (KN.out w4 HB4.out).mono fun e w' hp => by
      obtain ⟨gv, n, rfl, hb, _⟩ := hp
      exact ⟨gv, _, _, rfl, hb⟩
    clear KN kn1
    go_wp2_with (go_at_call 11; refine kn2.mono ?_; rintro e w5 ⟨gv2, x2, nb2, rfl, hb5⟩; have HB5 := Lib.hid (HB4.out.trans (hb5.mono HB4.out.size)); clear hb5)
    go_ret
    exact ⟨rfl, HB5.out⟩
end Go.Proofs.Ytnpadnghocofdaa
