/- The law JobsPlans, walked. -/
import Derived.Test.YtnjabanjgckeoaaJ21
namespace Go.Proofs.Ytnjabanjgckeoaa
open Go.RowKit
open Go.ChangeMaps (setBlock)
set_option linter.unusedVariables false
set_option linter.unusedSimpArgs false
set_option maxRecDepth 100000

theorem Own.onlyJ {W0 : Base} {w : World} {r : Rw} : ∀ {L : List Rw}, Own W0 w (r :: L) → Own W0 w [r]
  | [], h => h
  | a :: L, h => Own.onlyJ (L := L) h.swap.tail
theorem src_du_at {w w' : World} {ad : Addr} {c : Nat} {us : List GU} (h : DU w (.slice (some ad) us.length c) us) (hb : Below w.heap.size w w') : ∃ xs, Units w xs us ∧ Src w' (.slice (some ad) us.length c) us.length (flatU xs) := by
  obtain ⟨a', c', xs, e, _, hU, hR⟩ := h
  injection e with e1 _ e3
  subst e1 e3
  refine ⟨xs, hU, .inr ⟨ad, c, rfl, fun j u hj => ?_, hU.onesJ⟩⟩
  obtain ⟨i, hi, hle, hc⟩ := flatU_getJ hj
  obtain ⟨b, o, e, hr⟩ := hR i hi
  injection e with e
  subst e
  have := rangeD_later hb hr _ _ hc
  rw [Addr.add_mid]
  rw [show o + j = o + i * 8 + (j - i * 8) from by omega]
  exact this
theorem addG_length (us : List GU) (run out : List Nm) (n : Nm) : (addG us run out n).length ≤ out.length + 1 := by
  unfold addG
  split <;> simp
theorem goneF_length (us : List GU) (run N : List Nm) : ∀ k, k ≤ N.length → (goneF us run N k).length ≤ k
  | 0, _ => by unfold goneF; simp
  | k + 1, h => by
    rw [goneF_succ (by omega)]
    have h1 := addG_length us run (goneF us run N k) (N[k]'(by omega))
    have h2 := goneF_length us run N k (by omega)
    omega
set_option maxHeartbeats 32000000 in
theorem plans15_law (w : World) (v v2 sv tv : Value) (us us2 : List GU) (run hit : List Nm) (h : UArg w v us) (hlen : us.length ≤ maxLen) (h2 : UArg w v2 us2) (hlen2 : us2.length ≤ maxLen) (hsv : Sts w sv run) (htv : Sts w tv hit) :
    Calls Try.prog 3 #[v, v2, sv, tv] w fun e w' => e = .returned (.bool true) ∧ Below w.heap.size w w' := by
  obtain ⟨av, cv, hv⟩ : ∃ a c, v = .slice a us.length c := by obtain ⟨a, c, _, e, _⟩ := h; exact ⟨a, c, e⟩
  obtain ⟨av2, cv2, hv2⟩ : ∃ a c, v2 = .slice a us2.length c := by obtain ⟨a, c, _, e, _⟩ := h2; exact ⟨a, c, e⟩
  have H := Lib.hid h
  have H2 := Lib.hid h2
  have HSv := Lib.hid hsv
  have HTv := Lib.hid htv
  have ka := alive15_any w
  have KS := Lib.hid (fun w1 (hb : Below w.heap.size w w1) => small_any (h.later hb) hlen)
  have KS2 := Lib.hid (fun w1 (hb : Below w.heap.size w w1) => small_any (h2.later hb) hlen2)
  obtain ⟨sa, sc, hsa, hsq, hsm, hsp⟩ := id hsv
  have hsml : (run.length : Int) ≤ 9223372036854775807 := by unfold maxLen at hsm; omega
  obtain ⟨ta, tc, hta, _, htm, _⟩ := id htv
  have html : (hit.length : Int) ≤ 9223372036854775807 := by unfold maxLen at htm; omega
  subst hv hv2 hsa hta
  have hn : (us.length : Int) ≤ 9223372036854775807 := by unfold maxLen at hlen; omega
  have hn2 : (us2.length : Int) ≤ 9223372036854775807 := by unfold maxLen at hlen2; omega
  clear h hlen hsv hsm hsq hsp h2 hlen2 htv htm
  go_enter Try.func3, Try.ntmps3
  go_upto_region 3 with (go_at_call 4; refine ka.mono ?_; rintro e w1 ⟨rfl, hb1⟩; have HB1 := Lib.hid hb1; clear hb1)
  have ks := KS.out w1 HB1.out
  clear KS ka
  go_upto_region 5 with (first
    | (have _g := HR.out; clear _g; go_at_call 5; refine (KS2.out w2 HB2.out).mono ?_; rintro e w3 ⟨hb3, hsm⟩; obtain ⟨r2, rfl, hrr⟩ : ∃ r : Int, e = .returned (.int .i64 r) ∧ (r = 0 ∨ r = 1 ∧ SmallU us2) := (by rcases hsm with rfl | ⟨rfl, h⟩; exact ⟨0, rfl, .inl rfl⟩; exact ⟨1, rfl, .inr ⟨rfl, h⟩⟩); have HB3 := Lib.hid (HB2.out.trans (hb3.mono HB2.out.size)); have HR2 := Lib.hid hrr; clear hb3 hsm hrr)
    | (go_at_call 5; refine ks.mono ?_; rintro e w2 ⟨hb2, hsm⟩; obtain ⟨r, rfl, hrr⟩ : ∃ r : Int, e = .returned (.int .i64 r) ∧ (r = 0 ∨ r = 1 ∧ SmallU us) := (by rcases hsm with rfl | ⟨rfl, h⟩; exact ⟨0, rfl, .inl rfl⟩; exact ⟨1, rfl, .inr ⟨rfl, h⟩⟩); have HB2 := Lib.hid (HB1.out.trans (hb2.mono HB1.out.size)); have HR := Lib.hid hrr; clear hb2 hsm hrr))
  all_goals try (go_ret; first | exact ⟨rfl, HB3.out⟩ | exact ⟨rfl, HB2.out⟩)
  have hr0 : ¬ r = 0 := by assumption
  have hr20 : ¬ r2 = 0 := by assumption
  have hs20 : (((r == 0) = false ∧ (r2 == 0) = false) ∧ (run.length : Int) ≤ 20) ∧ (hit.length : Int) ≤ 20 := by assumption
  have hS : SmallU us := HR.out.elim (fun h => absurd h hr0) (fun h => h.2)
  have hS2 : SmallU us2 := HR2.out.elim (fun h => absurd h hr20) (fun h => h.2)
  have hsl : (run.length : Int) ≤ 20 := hs20.1.2
  have htl : (hit.length : Int) ≤ 20 := hs20.2
  have hU := H.out.later HB3.out
  have hn20 : (us.length : Int) ≤ 20 := by have := hS.1; omega
  have hn220 : (us2.length : Int) ≤ 20 := by have := hS2.1; omega
  have kn := new_any hU (by omega) (fun n hn => by have := hS.names n hn; omega) hS.bnd
  have KN := Lib.hid (fun w4 (hb : Below w.heap.size w w4) => new_any (H2.out.later hb) (by omega) (fun n hn => by have := hS2.names n hn; omega) hS2.bnd)
  clear ks hU hS hS2 hr0 hr20 hs20 HR HR2
  by_cases hE : errU us = 0
  · have kn1 : Calls Try.prog 6 #[.slice av us.length cv] w3 fun e w' => ∃ g nb, e = .returned (.tuple #[.pointer (some ⟨g, 0, none⟩), .int .i64 0, .string nb]) ∧ GAt w' g us (ordU us) ∧ Below w3.heap.size w3 w' := kn.mono fun e w' hp => by
      obtain ⟨gv, n, rfl, hb, _, hg, _⟩ := hp
      obtain ⟨g, rfl, hG⟩ := hg hE
      exact ⟨g, _, by rw [hE], hG, hb⟩
    have HE := Lib.hid hE
    clear kn hE
    go_upto_region 6 with (go_at_call 6; refine kn1.mono ?_; rintro e w4 ⟨g, nb, rfl, hG, hb4⟩; have HG := Lib.hid hG; have HB4 := Lib.hid (HB3.out.trans (hb4.mono HB3.out.size)); clear hG hb4)
    have kn := KN.out w4 HB4.out
    clear KN kn1
    by_cases hE2 : errU us2 = 0
    · have kn2 : Calls Try.prog 6 #[.slice av2 us2.length cv2] w4 fun e w' => ∃ g nb, e = .returned (.tuple #[.pointer (some ⟨g, 0, none⟩), .int .i64 0, .string nb]) ∧ GAt w' g us2 (ordU us2) ∧ Below w4.heap.size w4 w' := kn.mono fun e w' hp => by
        obtain ⟨gv, n, rfl, hb, _, hg, _⟩ := hp
        obtain ⟨g, rfl, hG⟩ := hg hE2
        exact ⟨g, _, by rw [hE2], hG, hb⟩
      have HE2 := Lib.hid hE2
      clear kn hE2
      go_upto_region 9 with (go_at_call 6; refine kn2.mono ?_; rintro e w5 ⟨h, nb2, rfl, hH, hb5⟩; have HH := Lib.hid hH; have HG5 := Lib.hid (HG.out.later hb5); have HB5 := Lib.hid (HB4.out.trans (hb5.mono HB4.out.size)); clear hH hb5)
      have kr := (restart_any HG5.out HH.out (HSv.out.later HB5.out) (HTv.out.later HB5.out)).mono plan_gen
      clear kn2
      go_upto_region 10 with (first
        | (refine wpList_store_new rfl 31 (.tmp 15) (.tmp 70) rfl H6.out [_, _] w6.heap.size rfl rfl rfl rfl info_plan (plan_cells _ _ _ _ _ _ _ _ rfl rfl) ?_)
        | (go_at_call 7; refine kr.mono ?_; rintro e w6 ⟨l, a1, n1, c1, a2, n2, c2, rfl, hJ, hn1, hn2, hO⟩; have HJ := Lib.hid hJ; have HN1 := Lib.hid hn1; have HN2 := Lib.hid hn2; have H6 := Lib.hid hO; clear hO hJ hn1 hn2))
      intro w7 hO7 _
      have HP0 := Lib.hid (show w7.cell? ⟨w6.heap.size, 0, none⟩ = some (.slice a1 n1 c1) from hO7.cell 0 (by decide))
      have HP1 := Lib.hid (show w7.cell? ⟨w6.heap.size, 1, none⟩ = some (.slice a2 n2 c2) from hO7.cell 1 (by decide))
      have HS1 := Lib.hid (show Sts w7 (.slice a1 n1 c1) (stopN us run l).reverse from hO7.tail.sts)
      have HS2 := Lib.hid (show Sts w7 (.slice a2 n2 c2) (pick (ordU us2) (stopN us run l)) from hO7.tail.tail.sts)
      have HB7 := Lib.hid (HB5.out.trans (hO7.below.mono HB5.out.size))
      have kp1 := Lib.hid (plain15_any w7 (H.out.later HB7.out) (by omega))
      have HH7 := Lib.hid (HH.out.later hO7.below)
      clear hO7 kr H6
      generalize w6.heap.size = b15 at *
      go_wp2_with fail
      go_at_call 8
      refine kp1.out.mono ?_
      rintro e w8 ⟨ada, cda, rfl, hD8, hb8⟩
      have kp2 := Lib.hid (plain15_any w8 (H2.out.later (HB7.out.trans (hb8.mono HB7.out.size))) (by omega))
      have HD8 := Lib.hid hD8
      have HB8 := Lib.hid hb8
      clear kp1 hD8 hb8
      go_wp2_with fail
      go_at_call 8
      refine kp2.out.mono ?_
      rintro e w9 ⟨adb, cdb, rfl, hD9, hb9⟩
      have HD9 := Lib.hid hD9
      have HDa := Lib.hid (HD8.out.later hb9)
      have HB9 := Lib.hid (show Below w7.heap.size w7 w9 from HB8.out.trans (hb9.mono HB8.out.size))
      clear kp2 hD9 hb9
      have HBw := Lib.hid (show Below w.heap.size w w9 from HB7.out.trans (HB9.out.mono HB7.out.size))
      have kl := Lib.hid (dlean_any w9 HDa.out (HTv.out.later HBw.out))
      go_upto_region 11 with fail
      go_wp2_with fail
      go_at_call 9
      refine kl.out.mono ?_
      rintro e w10 ⟨vl, rfl, hO10⟩
      have H10 := Lib.hid hO10
      clear kl hO10
      go_upto_region 13 with fail
      have H12 := Lib.hid ((H10.out.made_at 9 1 #[] 0 w10.heap.size rfl rfl (by unfold maxLen; omega)).made_at 9 1 #[] 0 (w10.heap.size + 1) (by simp) rfl (by unfold maxLen; omega))
      obtain ⟨W12, hW12⟩ : ∃ W12, W12 = ((w10.alloc (.cells #[] 9)).alloc (.cells #[] 9)) := ⟨_, rfl⟩
      rw [← hW12] at H12 ⊢
      clear hW12
      generalize w10.heap.size = bs at *
      have ko := Lib.hid (dorder_any W12 (HDa.out.later H12.out.below))
      rw [ordD_eq HE.out] at ko
      have Hlean := Lib.hid (fun n => leanD_iff (errU_ok HE.out).2.1 hit n)
      generalize pick (sortN (namesU us)) (leanDn us hit (sortN (namesU us)) ((sortN (namesU us)).length + 1)) = lean at *
      have hOl : (ordU us).length ≤ 20 := by
        have h1 := (ordU_perm HE.out).length_eq
        have h2 : (namesU us).length = us.length := by unfold namesU; rw [List.length_map]
        omega
      generalize hO1e : ordU us = O1 at *
      have HO1e := Lib.hid hO1e
      clear hO1e
      go_wp2_with fail
      go_at_call 10
      refine ko.out.mono ?_
      rintro e w13 ⟨vo, rfl, hO13⟩
      obtain ⟨ao, co, rfl, _, _, _⟩ := hO13.sts
      obtain ⟨al, cl, hvl, _, _, _⟩ := H10.out.sts
      subst hvl
      have H13 := Lib.hid (show Own w9 w13 [rowSs (.slice (some ⟨bs, 0, none⟩) 0 0) [], rowSs (.slice ao O1.length co) O1, rowSs (.slice (some ⟨bs + 1, 0, none⟩) 0 0) [], rowSs (.slice al lean.length cl) lean] from ((H12.out.join hO13).perm (by
        refine List.Perm.trans (List.Perm.cons _ (List.Perm.swap _ _ _)) ?_
        exact List.Perm.swap _ _ _)))
      clear ko hO13
      have hOlz : (O1.length : Int) ≤ 20 := by omega
      have hollen := Lib.hid hOl
      clear hOl
      have HRn := Lib.hid (fun (W : World) (hb : Below w9.heap.size w9 W) => HSv.out.later (HBw.out.trans (hb.mono HBw.out.size)))
      obtain ⟨i0, hi0, hz0, hz1, hz2⟩ := infoS_ex
      go_wp2_with fail
      go_loopw [19, 83] (fun s19 s83 wr => ∃ i : Nat, ∃ ad : Addr, ∃ c : Nat, i ≤ O1.length ∧ s83 = .int .i64 i ∧ s19 = .slice (some ad) (stopF lean run O1 i).length c ∧ Own w9 wr [rowSs (.slice (some ad) (stopF lean run O1 i).length c) (stopF lean run O1 i), rowSs (.slice ao O1.length co) O1, rowSs (.slice (some ⟨bs + 1, 0, none⟩) 0 0) [], rowSs (.slice al lean.length cl) lean]) (fun _ s83 _ => O1.length - (intOf s83).toNat)
      case atStart => exact ⟨0, ⟨bs, 0, none⟩, 0, Nat.zero_le _, rfl, rfl, H13.out⟩
      case round =>
        obtain ⟨i, ad, c, hi, rfl, rfl, hO⟩ := hrel
        have hsl1 : (stopF lean run O1 i).length ≤ 20 := by
          unfold stopF
          rw [List.length_reverse]
          refine Nat.le_trans (List.length_filter_le _ _) ?_
          rw [List.length_take]
          have := hollen.out
          omega
        by_cases hlt : i < O1.length
        · have hstp := stopF_succ (lean := lean) (run := run) hlt
          obtain ⟨_, _, e3, _, _, h4⟩ := hO.tail.sts
          injection e3 with e3 _ e33
          subst e33
          obtain ⟨b, o, e4, _, hc⟩ := h4 (by omega)
          subst e3
          subst e4
          have ci := hc i hlt
          obtain ⟨nm, hnm⟩ : ∃ nm, O1[i] = nm := ⟨_, rfl⟩
          rw [hnm] at ci hstp
          have K1 := Lib.hid (has15_any _ lean nm wr hO.tail.tail.tail.sts)
          have K2 := Lib.hid (has15_any (.slice sa run.length sc) run nm wr (HRn.out wr hO.below))
          obtain ⟨nb, hnb⟩ : ∃ nb, toB nm = nb := ⟨_, rfl⟩
          rw [hnb] at ci K1 K2
          have HNB := Lib.hid hnb
          obtain ⟨st, hst⟩ : ∃ st, stopF lean run O1 i = st := ⟨_, rfl⟩
          rw [hst] at hstp hO hsl1 ⊢
          obtain ⟨b1, hb1⟩ : ∃ b1, decide (nm ∈ lean) = b1 := ⟨_, rfl⟩
          obtain ⟨b2, hb2⟩ : ∃ b2, decide (nm ∈ run) = b2 := ⟨_, rfl⟩
          rw [hb1] at K1
          rw [hb2] at K2
          rw [hb1, hb2] at hstp
          have Hstp := Lib.hid hstp
          have HO := Lib.hid hO
          have hsl2 := Lib.hid hsl1
          have hiz : (i : Int) < (O1.length : Int) := by omega
          clear hO hc h4 hnm hnb hst hb1 hb2 hstp hsl1
          go_wp2_with fail
          go_at_call 11
          refine K1.out.mono ?_
          rintro e w14 ⟨rfl, rfl⟩
          clear K1
          cases b1
          · have HR := Lib.hid (show stopF lean run O1 (i + 1) = st from by rw [Hstp.out]; rfl)
            clear K2
            go_wp2_with fail
            go_roundw
            case rel => exact ⟨i + 1, ad, c, by omega, by go_num, by rw [HR.out], by rw [HR.out]; exact HO.out⟩
            case measure => simp [intOf]; omega
          · go_wp2_with fail
            go_at_call 11
            refine K2.out.mono ?_
            rintro e w15 ⟨rfl, rfl⟩
            clear K2
            cases b2
            · have HR := Lib.hid (show stopF lean run O1 (i + 1) = st from by rw [Hstp.out]; rfl)
              go_wp2_with fail
              go_roundw
              case rel => exact ⟨i + 1, ad, c, by omega, by go_num, by rw [HR.out], by rw [HR.out]; exact HO.out⟩
              case measure => simp [intOf]; omega
            · have HR := Lib.hid (show stopF lean run O1 (i + 1) = nm :: st from by rw [Hstp.out]; rfl)
              have HA := Lib.hid (HO.out.made_at 9 1 #[.string nb] 1 wr.heap.size rfl rfl (by unfold maxLen; decide))
              obtain ⟨_, ad2, e5, hsr⟩ := Sts.src (HA.out.tail.sts) (by simp)
              injection e5 with e5
              subst e5
              have Hsrc := Lib.hid hsr
              have Hb1 := Lib.hid (show 1 + st.length ≤ maxLen from by have := hsl2.out; unfold maxLen; omega)
              have Hb2 := Lib.hid (show (1 + st.length) * 16 ≤ 140737488355328 from by have := hsl2.out; omega)
              clear hsr
              go_wp2_with (at_builtin; refine wpList_append_src rfl (.tmp 96) (.tmp 97) 23 rfl (.slice (some ⟨wr.heap.size, 0, none⟩) 1 1) 1 [.string nb] (.slice (some ad) st.length c) st.length (strs st) rfl rfl HA.out i0 (.string ⟨#[]⟩) 16 Try.underlying23 hi0 hz0 hz1 hz2 rfl (by decide) Hsrc.out (by simp [strs]) Hb1.out Hb2.out ?_)
              intro v7 w7' hO7
              obtain ⟨g8, c8, hv8, _, _, _, _⟩ := Own.form (h := hO7) (by omega)
              subst hv8
              have HO7 := Lib.hid (show Own w9 w7' [rowSs (.slice (some ⟨g8, 0, none⟩) (nm :: st).length c8) (nm :: st), rowSs (.slice (some ⟨b, o, none⟩) O1.length co) O1, rowSs (.slice (some ⟨bs + 1, 0, none⟩) 0 0) [], rowSs (.slice al lean.length cl) lean] from by
                have h1 := hO7.swap.tail
                show Own w9 w7' [⟨9, 1, .slice _ (st.length + 1) _, st.length + 1, strs (nm :: st)⟩, _, _, _]
                rw [show strs (nm :: st) = [.string nb] ++ strs st from by rw [← HNB.out]; simp [strs], Nat.add_comm st.length 1]
                exact h1)
              have hgl : (nm :: st).length = 1 + st.length := by rw [List.length_cons]; omega
              rw [hgl] at HO7
              have HGL := Lib.hid hgl
              clear hO7 hgl
              go_wp2_with fail
              go_roundw
              case rel => exact ⟨i + 1, ⟨g8, 0, none⟩, c8, by omega, by go_num, by rw [HR.out, HGL.out], by rw [HR.out, HGL.out]; exact HO7.out⟩
              case measure => simp [intOf]; omega
        · obtain rfl : i = O1.length := by omega
          have hse := stop_eq HE.out Hlean.out HJ.out (run := run)
          rw [HO1e.out] at hse
          rw [hse] at hO hsl1 ⊢
          obtain ⟨ST, hST⟩ : ∃ ST, (stopN us run l).reverse = ST := ⟨_, rfl⟩
          rw [hST] at hO hsl1 ⊢
          have HST := Lib.hid hST
          have HST1 := Lib.hid (show Sts w7 (.slice a1 n1 c1) ST from by rw [← hST]; exact HS1.out)
          have hsl2 := Lib.hid hsl1
          have H14 := Lib.hid (show Own w9 wr [rowSs (.slice (some ⟨bs + 1, 0, none⟩) 0 0) [], rowSs (.slice (some ad) ST.length c) ST] from
            (hO.perm (show List.Perm [rowSs (.slice (some ad) ST.length c) ST, rowSs (.slice ao O1.length co) O1, rowSs (.slice (some ⟨bs + 1, 0, none⟩) 0 0) [], rowSs (.slice al lean.length cl) lean] [rowSs (.slice ao O1.length co) O1, rowSs (.slice al lean.length cl) lean, rowSs (.slice (some ⟨bs + 1, 0, none⟩) 0 0) [], rowSs (.slice (some ad) ST.length c) ST] from by
              refine (List.Perm.swap _ _ _).trans (List.Perm.cons _ ?_)
              refine (List.Perm.swap _ _ _).trans ?_
              refine (List.Perm.cons _ (List.Perm.swap _ _ _)).trans ?_
              exact (List.Perm.swap _ _ _).trans (List.Perm.refl _))).tail.tail)
          have hOl2 : (ordU us2).length ≤ 20 := by
            have h1 := (ordU_perm HE2.out).length_eq
            have h2 : (namesU us2).length = us2.length := by unfold namesU; rw [List.length_map]
            omega
          have ko := Lib.hid (dorder_any wr (HD9.out.later hO.below))
          rw [ordD_eq HE2.out] at ko
          generalize hO2e : ordU us2 = O2 at *
          have HO2e := Lib.hid hO2e
          clear hO2e hO hse hST hsl1
          go_wp2_with fail
          go_at_call 10
          refine ko.out.mono ?_
          rintro e w16 ⟨vo2, rfl, hO16⟩
          obtain ⟨ao2, co2, rfl, _, _, _⟩ := hO16.sts
          have H16 := Lib.hid (show Own w9 w16 [rowSs (.slice (some ⟨bs + 1, 0, none⟩) 0 0) [], rowSs (.slice ao2 O2.length co2) O2, rowSs (.slice (some ad) ST.length c) ST] from (H14.out.join hO16).swap)
          clear ko hO16
          have hO2z : (O2.length : Int) ≤ 20 := by omega
          have hol2 := Lib.hid hOl2
          clear hOl2
          go_wp2_with fail
          go_loopw [20, 103] (fun s20 s103 wr => ∃ i : Nat, ∃ (a : Option Addr) (c2 : Nat), i ≤ O2.length ∧ s103 = .int .i64 i ∧ s20 = .slice a (startF ST O2 i).length c2 ∧ Own w9 wr [rowSs (.slice a (startF ST O2 i).length c2) (startF ST O2 i), rowSs (.slice ao2 O2.length co2) O2, rowSs (.slice (some ad) ST.length c) ST]) (fun _ s103 _ => O2.length - (intOf s103).toNat)
          case atStart => exact ⟨0, _, _, Nat.zero_le _, rfl, rfl, H16.out⟩
          case round =>
            obtain ⟨i, a20, c20, hi, rfl, rfl, hO⟩ := hrel
            have htl1 : (startF ST O2 i).length ≤ 20 := by
              unfold startF
              refine Nat.le_trans (pick_len _ _) ?_
              rw [List.length_take]
              have := hol2.out
              omega
            by_cases hlt : i < O2.length
            · have hstp := pick_take O2 ST i hlt
              obtain ⟨_, _, e3, _, _, h4⟩ := hO.tail.sts
              injection e3 with e3 _ e33
              subst e33
              obtain ⟨b, o, e4, _, hc⟩ := h4 (by omega)
              subst e3
              subst e4
              have ci := hc i hlt
              obtain ⟨nm, hnm⟩ : ∃ nm, O2[i] = nm := ⟨_, rfl⟩
              rw [hnm] at ci hstp
              have K1 := Lib.hid (has15_any _ ST nm wr hO.tail.tail.sts)
              obtain ⟨nb, hnb⟩ : ∃ nb, toB nm = nb := ⟨_, rfl⟩
              rw [hnb] at ci K1
              have HNB := Lib.hid hnb
              have hstp2 : startF ST O2 (i + 1) = startF ST O2 i ++ if nm ∈ ST then [nm] else [] := hstp
              obtain ⟨st, hst⟩ : ∃ st, startF ST O2 i = st := ⟨_, rfl⟩
              rw [hst] at hstp2 hO htl1 ⊢
              have HO := Lib.hid hO
              have hiz : (i : Int) < (O2.length : Int) := by omega
              clear hc h4 hnm hnb hst hstp hO
              by_cases hx : nm ∈ ST
              · rw [decide_eq_true hx] at K1
                rw [if_pos hx] at hstp2
                have HR := Lib.hid hstp2
                have HA := Lib.hid (HO.out.alloc (.cells #[.string nb] 9))
                have Hsrc := Lib.hid (src_one wr (.string nb) 9 rfl)
                have Hb1 := Lib.hid (show st.length + 1 ≤ maxLen from by unfold maxLen; omega)
                have Hb2 := Lib.hid (show (st.length + 1) * 16 ≤ 140737488355328 from by omega)
                clear hx hstp2 htl1
                go_wp2_with fail
                go_at_call 11
                refine K1.out.mono ?_
                rintro e w17 ⟨rfl, rfl⟩
                clear K1
                go_wp2_with (at_builtin; refine wpList_append_src rfl (.tmp 110) (.tmp 112) 23 rfl (.slice a20 st.length c20) st.length (strs st) (.slice (some ⟨wr.heap.size, 0, none⟩) 1 1) 1 [.string nb] rfl rfl HA.out i0 (.string ⟨#[]⟩) 16 Try.underlying23 hi0 hz0 hz1 hz2 rfl (by decide) Hsrc.out (by simp) Hb1.out Hb2.out ?_)
                intro v7 w7' hO7
                obtain ⟨a8, c8, hv8, _, _⟩ := Own.sized (h := hO7)
                subst hv8
                have hgl : (st ++ [nm]).length = st.length + 1 := by simp
                have HGL := Lib.hid hgl
                have HO7 := Lib.hid (show Own w9 w7' [⟨9, 1, .slice a8 (st.length + 1) c8, st.length + 1, strs (st ++ [nm])⟩, rowSs (.slice (some ⟨b, o, none⟩) O2.length co2) O2, rowSs (.slice (some ad) ST.length c) ST] from by
                  rw [show strs (st ++ [nm]) = strs st ++ [.string nb] from by rw [← HNB.out]; simp [strs]]
                  exact hO7)
                clear hO7 hgl
                go_wp2_with fail
                go_roundw
                case rel => exact ⟨i + 1, a8, c8, by omega, by go_num, by rw [HR.out, HGL.out], by rw [HR.out]; unfold rowSs; rw [HGL.out]; exact HO7.out⟩
                case measure => simp [intOf]; omega
              · rw [decide_eq_false hx] at K1
                rw [if_neg hx, List.append_nil] at hstp2
                have HR := Lib.hid hstp2
                clear hx hstp2 htl1
                go_wp2_with fail
                go_at_call 11
                refine K1.out.mono ?_
                rintro e w17 ⟨rfl, rfl⟩
                clear K1
                go_wp2_with fail
                go_roundw
                case rel => exact ⟨i + 1, a20, c20, by omega, by go_num, by rw [HR.out], by rw [HR.out]; exact HO.out⟩
                case measure => simp [intOf]; omega
            · obtain rfl : i = O2.length := by omega
              have hte := start_eq us2 (stopN us run l)
              rw [HST.out, HO2e.out] at hte
              rw [hte] at hO htl1 ⊢
              obtain ⟨TR, hTR⟩ : ∃ TR, pick O2 (stopN us run l) = TR := ⟨_, rfl⟩
              rw [hTR] at hO htl1 ⊢
              have HTR2 := Lib.hid (show Sts w7 (.slice a2 n2 c2) TR from by rw [← hTR]; exact HS2.out)
              have H20 := Lib.hid (show Own w9 wr [rowSs (.slice a20 TR.length c20) TR, rowSs (.slice (some ad) ST.length c) ST] from hO.swap.tail)
              have H21 := Lib.hid (H20.out.made_at 9 1 #[] 0 wr.heap.size rfl rfl (by unfold maxLen; omega))
              clear hO hte hTR htl1
              go_upto_region 26 with fail
              obtain ⟨W21, hW21⟩ : ∃ W21, W21 = wr.alloc (.cells #[] 9) := ⟨_, rfl⟩
              rw [← hW21] at H21 ⊢
              clear hW21
              generalize wr.heap.size = bg at *
              obtain ⟨j0, z0, hj0, hy0, hy1, hy2, hy3⟩ := info_dunit_ex
              have HY3 := Lib.hid hy3
              clear hy3
              have kn := Lib.hid (named_any W21 (HRn.out W21 H21.out.below) (by omega))
              go_wp2_with fail
              go_at_call 13
              refine kn.out.mono ?_
              rintro e w22 ⟨vn, rfl, hON⟩
              obtain ⟨an, cn, hvn, _, _⟩ := Own.sized (h := hON)
              subst hvn
              have H22 := Lib.hid (H21.out.join hON)
              obtain ⟨xs2, hU2, hsr2⟩ := src_du_at HD9.out (H21.out.join hON).below
              have HU2 := Lib.hid hU2
              have Hsr2 := Lib.hid hsr2
              have hux := Lib.hid (show (flatU xs2).length = us2.length * 8 from by rw [flatU_len, hU2.len])
              have Hb1 := Lib.hid (show run.length + us2.length ≤ maxLen from by unfold maxLen; omega)
              have Hb2 := Lib.hid (show (run.length + us2.length) * 168 ≤ 140737488355328 from by omega)
              clear hU2 hsr2 hON kn
              go_wp2_with (at_builtin; refine wpList_append_src rfl (.tmp 117) (.tmp 118) 33 rfl (.slice an run.length cn) run.length (flatU (run.map nmV)) (.slice (some adb) us2.length cdb) us2.length (flatU xs2) rfl rfl H22.out j0 z0 168 Try.underlying33 hj0 hy0 hy1 hy2 HY3.out (by decide) Hsr2.out hux.out Hb1.out Hb2.out ?_)
              intro v23 w23 hO23
              have hlu : (run.map nmU ++ us2).length = run.length + us2.length := by simp
              have hdu : DU w23 v23 (run.map nmU ++ us2) := by
                refine du_of (w := w9) (xs := run.map nmV ++ xs2) (units_named w23 run (HU2.out.later hO23.below)) (by rw [hlu]; omega) ?_
                rw [hlu, flatU_app]; exact Own.onlyJ hO23
              obtain ⟨a23, c23, hv23, _, _⟩ := Own.sized (h := hO23)
              subst hv23
              have kN := Lib.hid (dnames_any w23 hdu)
              have HNo := Lib.hid (sortN_order (namesU (run.map nmU ++ us2)))
              have HNm := Lib.hid (show ∀ x ∈ run, x ∈ sortN (namesU (run.map nmU ++ us2)) from fun x hx => named_mem hx)
              have hNl : (sortN (namesU (run.map nmU ++ us2))).length ≤ 40 := by
                rw [sortN_length]; unfold namesU; rw [List.length_map, hlu]; omega
              generalize sortN (namesU (run.map nmU ++ us2)) = N at *
              have H23 := Lib.hid hO23.tail
              have hNl2 := Lib.hid hNl
              have hNz : (N.length : Int) ≤ 40 := by omega
              clear hO23 hdu hlu hNl Hsr2 H22 hux Hb1 Hb2
              go_wp2_with fail
              go_at_call 12
              refine kN.out.mono ?_
              rintro e w24 ⟨vN, rfl, hO24⟩
              obtain ⟨aN, cN, rfl, _, _, _⟩ := hO24.sts
              have H24 := Lib.hid ((H23.out.join hO24).swap)
              clear hO24 kN
              go_wp2_with fail
              go_loopw [25, 122] (fun s25 s122 wr => ∃ i : Nat, ∃ (a : Option Addr) (c3 : Nat), i ≤ N.length ∧ s122 = .int .i64 i ∧ s25 = .slice a (goneF us2 run N i).length c3 ∧ Own w9 wr [rowSs (.slice a (goneF us2 run N i).length c3) (goneF us2 run N i), rowSs (.slice aN N.length cN) N, rowSs (.slice a20 TR.length c20) TR, rowSs (.slice (some ad) ST.length c) ST]) (fun _ s122 _ => N.length - (intOf s122).toNat)
              case atStart => exact ⟨0, _, _, Nat.zero_le _, rfl, rfl, H24.out⟩
              case round =>
                obtain ⟨i, a25, c25, hi, rfl, rfl, hO⟩ := hrel
                have hgl1 : (goneF us2 run N i).length ≤ 40 := Nat.le_trans (goneF_length us2 run N i hi) (by have := hNl2.out; omega)
                by_cases hlt : i < N.length
                · have hstp := goneF_succ (us := us2) (run := run) hlt
                  obtain ⟨_, _, e3, _, _, h4⟩ := hO.tail.sts
                  injection e3 with e3 _ e33
                  subst e33
                  obtain ⟨b, o, e4, _, hc⟩ := h4 (by omega)
                  subst e3
                  subst e4
                  have ci := hc i hlt
                  obtain ⟨nm, hnm⟩ : ∃ nm, N[i] = nm := ⟨_, rfl⟩
                  rw [hnm] at ci hstp
                  obtain ⟨gn, hgn⟩ : ∃ gn, goneF us2 run N i = gn := ⟨_, rfl⟩
                  rw [hgn] at hstp hO hgl1 ⊢
                  have K1 := Lib.hid (has15_any (.slice sa run.length sc) run nm wr (HRn.out wr hO.below))
                  have K2 := Lib.hid (dfind_any wr (HD9.out.later hO.below) nm)
                  have K3 := Lib.hid (has15_any _ gn nm wr hO.sts)
                  obtain ⟨nb, hnb⟩ : ∃ nb, toB nm = nb := ⟨_, rfl⟩
                  rw [hnb] at ci K1 K2 K3
                  have HNB := Lib.hid hnb
                  obtain ⟨b1, hb1⟩ : ∃ b1, decide (nm ∈ run) = b1 := ⟨_, rfl⟩
                  obtain ⟨b3, hb3⟩ : ∃ b3, decide (nm ∈ gn) = b3 := ⟨_, rfl⟩
                  rw [hb1] at K1
                  rw [hb3] at K3
                  unfold addG at hstp
                  rw [hb1, hb3] at hstp
                  have Hstp := Lib.hid hstp
                  have HO := Lib.hid hO
                  have hgl2 := Lib.hid hgl1
                  have hiz : (i : Int) < (N.length : Int) := by omega
                  clear hO hc h4 hnm hnb hgn hb1 hb3 hstp hgl1
                  go_wp2_with fail
                  go_at_call 11
                  refine K1.out.mono ?_
                  rintro e w25 ⟨rfl, rfl⟩
                  clear K1
                  cases b1
                  · have HR := Lib.hid (show goneF us2 run N (i + 1) = gn from by rw [Hstp.out]; rfl)
                    clear K2 K3
                    go_wp2_with fail
                    go_roundw
                    case rel => exact ⟨i + 1, a25, c25, by omega, by go_num, by rw [HR.out], by rw [HR.out]; exact HO.out⟩
                    case measure => simp [intOf]; omega
                  · go_wp2_with fail
                    go_at_call 14
                    refine K2.out.mono ?_
                    rintro e w26 ⟨⟨r, rfl, hF⟩, rfl⟩
                    clear K2
                    rcases hF with ⟨rfl, hNN⟩ | ⟨kk, hkk, rfl, _, hYN, _⟩
                    · rw [decide_eq_false hNN] at Hstp
                      clear hNN
                      go_wp2_with fail
                      go_at_call 11
                      refine K3.out.mono ?_
                      rintro e w27 ⟨rfl, rfl⟩
                      clear K3
                      cases b3
                      · have HR := Lib.hid (show goneF us2 run N (i + 1) = gn ++ [nm] from by rw [Hstp.out]; rfl)
                        have hgl3 := hgl2.out
                        have HA := Lib.hid (HO.out.alloc (.cells #[.string nb] 9))
                        have Hsrc := Lib.hid (src_one w26 (.string nb) 9 rfl)
                        have Hb1 := Lib.hid (show gn.length + 1 ≤ maxLen from by unfold maxLen; omega)
                        have Hb2 := Lib.hid (show (gn.length + 1) * 16 ≤ 140737488355328 from by omega)
                        clear hgl3
                        go_wp2_with (at_builtin; refine wpList_append_src rfl (.tmp 141) (.tmp 143) 23 rfl (.slice a25 gn.length c25) gn.length (strs gn) (.slice (some ⟨w26.heap.size, 0, none⟩) 1 1) 1 [.string nb] rfl rfl HA.out i0 (.string ⟨#[]⟩) 16 Try.underlying23 hi0 hz0 hz1 hz2 rfl (by decide) Hsrc.out (by simp) Hb1.out Hb2.out ?_)
                        intro v7 w7' hO7
                        obtain ⟨a8, c8, hv8, _, _⟩ := Own.sized (h := hO7)
                        subst hv8
                        have hgl : (gn ++ [nm]).length = gn.length + 1 := by simp
                        have HGL := Lib.hid hgl
                        have HO7 := Lib.hid (show Own w9 w7' [⟨9, 1, .slice a8 (gn.length + 1) c8, gn.length + 1, strs (gn ++ [nm])⟩, rowSs (.slice (some ⟨b, o, none⟩) N.length cN) N, rowSs (.slice a20 TR.length c20) TR, rowSs (.slice (some ad) ST.length c) ST] from by
                          rw [show strs (gn ++ [nm]) = strs gn ++ [.string nb] from by rw [← HNB.out]; simp [strs]]
                          exact hO7)
                        clear hO7 hgl
                        go_wp2_with fail
                        go_roundw
                        case rel => exact ⟨i + 1, a8, c8, by omega, by go_num, by rw [HR.out, HGL.out], by rw [HR.out]; unfold rowSs; rw [HGL.out]; exact HO7.out⟩
                        case measure => simp [intOf]; omega
                      · have HR := Lib.hid (show goneF us2 run N (i + 1) = gn from by rw [Hstp.out]; rfl)
                        go_wp2_with fail
                        go_roundw
                        case rel => exact ⟨i + 1, a25, c25, by omega, by go_num, by rw [HR.out], by rw [HR.out]; exact HO.out⟩
                        case measure => simp [intOf]; omega
                    · rw [decide_eq_true hYN] at Hstp
                      have HR := Lib.hid (show goneF us2 run N (i + 1) = gn from by rw [Hstp.out]; simp)
                      have hkz : (0 : Int) ≤ (kk : Int) := by omega
                      clear hYN K3
                      go_wp2_with fail
                      go_roundw
                      case rel => exact ⟨i + 1, a25, c25, by omega, by go_num, by rw [HR.out], by rw [HR.out]; exact HO.out⟩
                      case measure => simp [intOf]; omega
                · obtain rfl : i = N.length := by omega
                  have hge := gone_eq (us := us2) HNo.out HNm.out
                  rw [hge] at hO ⊢
                  have hb7 : Below w7.heap.size w7 wr := HB9.out.trans (hO.below.mono HB9.out.size)
                  have hp0 := cell_kept hb7 HP0.out
                  have hp1 := cell_kept hb7 HP1.out
                  have q1 := Lib.hid (same15_eq (.slice a1 n1 c1) _ ST wr (HST1.out.later hb7) hO.tail.tail.tail.sts)
                  have q2 := Lib.hid (same15_eq (.slice a2 n2 c2) _ TR wr (HTR2.out.later hb7) hO.tail.tail.sts)
                  have q3 := Lib.hid (gone_any (HH7.out.later hb7) (HRn.out wr hO.below) (by omega))
                  have Q4 := Lib.hid (fun (W : World) (v : Value) (hb : Below wr.heap.size wr W) (hs : Sts W v (goneN us2 run)) => same15_eq v _ (goneN us2 run) W hs (hO.sts.later hb))
                  have HBz := Lib.hid (HBw.out.trans (hO.below.mono HBw.out.size))
                  clear hO hge hb7
                  go_wp2_with fail
                  go_at_call 15
                  refine q1.out.mono ?_
                  rintro e w30 ⟨rfl, rfl⟩
                  go_wp2_with fail
                  go_at_call 15
                  refine q2.out.mono ?_
                  rintro e w31 ⟨rfl, rfl⟩
                  go_wp2_with fail
                  go_at_call 16
                  refine q3.out.mono ?_
                  rintro e w32 ⟨vg, rfl, hO32⟩
                  have q4 := Lib.hid (Q4.out w32 vg hO32.below hO32.sts)
                  have HB32 := Lib.hid (HBz.out.trans (hO32.below.mono HBz.out.size))
                  obtain ⟨ag, ng, cg, rfl⟩ := hO32.sts.shape
                  clear hO32
                  go_wp2_with fail
                  go_at_call 15
                  refine q4.out.mono ?_
                  rintro e w33 ⟨rfl, rfl⟩
                  go_wp2_with fail
                  go_ret
                  exact ⟨rfl, HB32.out⟩
    · have kn2 : Calls Try.prog 6 #[.slice av2 us2.length cv2] w4 fun e w' => ∃ gv x nb, e = .returned (.tuple #[gv, .int .i64 x, .string nb]) ∧ x ≠ 0 ∧ Below w4.heap.size w4 w' := kn.mono fun e w' hp => by
        obtain ⟨gv, n, rfl, hb, _⟩ := hp
        exact ⟨gv, _, _, rfl, hE2, hb⟩
      clear kn hE2
      go_wp2_with (go_at_call 6; refine kn2.mono ?_; rintro e w5 ⟨gv, x, nb2, rfl, hx, hb5⟩; have HB5 := Lib.hid (HB4.out.trans (hb5.mono HB4.out.size)); have hx2 : (x == 0) = false := beq_eq_false_iff_ne.2 hx; clear hx hb5)
      go_ret
      exact ⟨rfl, HB5.out⟩
  · have kn1 : Calls Try.prog 6 #[.slice av us.length cv] w3 fun e w' => ∃ gv x nb, e = .returned (.tuple #[gv, .int .i64 x, .string nb]) ∧ x ≠ 0 ∧ Below w3.heap.size w3 w' := kn.mono fun e w' hp => by
      obtain ⟨gv, n, rfl, hb, _⟩ := hp
      exact ⟨gv, _, _, rfl, hE, hb⟩
    clear kn hE
    go_upto_region 6 with (go_at_call 6; refine kn1.mono ?_; rintro e w4 ⟨gv, x, nb, rfl, hx, hb4⟩; have HB4 := Lib.hid (HB3.out.trans (hb4.mono HB3.out.size)); have hx2 : (x == 0) = false := beq_eq_false_iff_ne.2 hx; clear hx hb4)
    have kn2 : Calls Try.prog 6 #[.slice av2 us2.length cv2] w4 fun e w' => ∃ gv x nb, e = .returned (.tuple #[gv, .int .i64 x, .string nb]) ∧ Below w4.heap.size w4 w' := (KN.out w4 HB4.out).mono fun e w' hp => by
      obtain ⟨gv, n, rfl, hb, _⟩ := hp
      exact ⟨gv, _, _, rfl, hb⟩
    clear KN kn1
    go_wp2_with (go_at_call 6; refine kn2.mono ?_; rintro e w5 ⟨gv2, x2, nb2, rfl, hb5⟩; have HB5 := Lib.hid (HB4.out.trans (hb5.mono HB4.out.size)); clear hb5)
    go_ret
    exact ⟨rfl, HB5.out⟩
end Go.Proofs.Ytnjabanjgckeoaa
