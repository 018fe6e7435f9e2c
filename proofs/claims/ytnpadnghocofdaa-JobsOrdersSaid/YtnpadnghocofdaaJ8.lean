/- The law JobsNone, walked. -/
import Derived.Test.YtnpadnghocofdaaJ7
namespace Go.Proofs.Ytnpadnghocofdaa
open Go.RowKit
open Go.ChangeMaps (setBlock)
set_option linter.unusedVariables false
set_option linter.unusedSimpArgs false
set_option maxRecDepth 100000

theorem restart_sl {w : World} {g g2 : Nat} {us us2 : List GU} {ord ord2 run hit : List Nm} {v vh : Value} (h : GAt w g us ord) (h2 : GAt w g2 us2 ord2) (hv : Sts w v run) (hh : Sts w vh hit) :
    Calls Try.prog 19 #[.pointer (some ⟨g, 0, none⟩), .pointer (some ⟨g2, 0, none⟩), v, vh] w fun e w' => ∃ l v1 v2, Plan2 us ord ord2 run hit w w' e l v1 v2 := restart_any h h2 hv hh
theorem plan_none {us : List GU} {ord2 run : List Nm} {w : World} (hE : errU us = 0) (e : Ending) (w' : World) (hp : ∃ l v1 v2, Plan2 us (ordU us) ord2 run [] w w' e l v1 v2) :
    ∃ a1 c1 a2 c2, e = .returned (.agg #[.slice a1 0 c1, .slice a2 0 c2]) ∧ Own w w' [rowSs (.slice a1 0 c1) [], rowSs (.slice a2 0 c2) []] := by
  obtain ⟨l, v1, v2, hp⟩ := hp
  obtain rfl := lean_nil hp.just
  have hO := hp.own
  rw [pick_none] at hO
  have hO' : Own w w' [rowSs v1 [], rowSs v2 []] := by
    have e1 : pick ord2 (List.filter (fun n => decide (n ∈ run)) []) = [] := pick_none _
    rw [e1] at hO
    exact hO
  obtain ⟨a1, c1, hv1, _, _⟩ := Own.sized (h := hO')
  obtain ⟨a2, c2, hv2, _, _⟩ := Own.sized (h := hO'.tail)
  have hv1' : v1 = .slice a1 0 c1 := hv1
  have hv2' : v2 = .slice a2 0 c2 := hv2
  subst hv1' hv2'
  exact ⟨a1, c1, a2, c2, hp.ret, hO'⟩
theorem plan_all {us : List GU} {ord2 run : List Nm} {w W : World} {vn : Value} (hE : errU us = 0) (hW : Own w W [rowSs vn (sortN (namesU us))]) (e : Ending) (w' : World) (hp : ∃ l v1 v2, Plan2 us (ordU us) ord2 run (sortN (namesU us)) W w' e l v1 v2) :
    ∃ a1 n1 c1 a2 n2 c2, e = .returned (.agg #[.slice a1 n1 c1, .slice a2 n2 c2]) ∧ n1 = (runsN run (ordU us)).reverse.length ∧ n2 = (pick ord2 (runsN run (ordU us))).length ∧ Own w w' [rowSs (.slice a1 n1 c1) (runsN run (ordU us)).reverse, rowSs (.slice a2 n2 c2) (pick ord2 (runsN run (ordU us)))] := by
  obtain ⟨l, v1, v2, hp⟩ := hp
  obtain rfl := lean_allN (errU_ok hE).2.1 hp.just
  have hO := keep2 (hW.join hp.own)
  rw [pick_all hE] at hO
  obtain ⟨a1, c1, hv1, _, _⟩ := Own.sized (h := hO)
  obtain ⟨a2, c2, hv2, _, _⟩ := Own.sized (h := hO.tail)
  have hv1' : v1 = .slice a1 (runsN run (ordU us)).reverse.length c1 := hv1
  have hv2' : v2 = .slice a2 (pick ord2 (runsN run (ordU us))).length c2 := hv2
  subst hv1' hv2'
  exact ⟨a1, _, c1, a2, _, c2, hp.ret, rfl, rfl, hO⟩
theorem sts_cell {w : World} {a : Option Addr} {n c : Nat} {ls : List Nm} (h : Sts w (.slice a n c) ls) (hn : n = ls.length) {k : Nat} (hk : k < ls.length) : ∃ b o, a = some ⟨b, o, none⟩ ∧ w.cell? ⟨b, o + k, none⟩ = some (.string (toB ls[k])) := by
  obtain ⟨a', c', e, _, _, h4⟩ := h
  obtain ⟨b, o, e2, _, hc⟩ := h4 (by omega)
  have e1 : a = a' := (Value.slice.inj e).1
  exact ⟨b, o, e1.trans e2, hc k hk⟩
set_option maxHeartbeats 16000000 in
theorem none_law (w : World) (v v2 sv : Value) (us us2 : List GU) (run : List Nm) (h : UArg w v us) (hlen : us.length ≤ maxLen) (h2 : UArg w v2 us2) (hlen2 : us2.length ≤ maxLen) (hsv : Sts w sv run) :
    Calls Try.prog 8 #[v, v2, sv] w fun e w' => e = .returned (.bool true) ∧ Below w.heap.size w w' := by
  obtain ⟨av, cv, hv⟩ : ∃ a c, v = .slice a us.length c := by obtain ⟨a, c, _, e, _⟩ := h; exact ⟨a, c, e⟩
  obtain ⟨av2, cv2, hv2⟩ : ∃ a c, v2 = .slice a us2.length c := by obtain ⟨a, c, _, e, _⟩ := h2; exact ⟨a, c, e⟩
  have H := Lib.hid h
  have H2 := Lib.hid h2
  have HSv := Lib.hid hsv
  have ka := alive15_any w
  have KS := Lib.hid (fun w1 (hb : Below w.heap.size w w1) => small_any (h.later hb) hlen)
  have KS2 := Lib.hid (fun w1 (hb : Below w.heap.size w w1) => small_any (h2.later hb) hlen2)
  obtain ⟨sa, sc, hsa, hsq, hsm, hsp⟩ := id hsv
  have hsml : (run.length : Int) ≤ 9223372036854775807 := by unfold maxLen at hsm; omega
  subst hv hv2 hsa
  have hn : (us.length : Int) ≤ 9223372036854775807 := by unfold maxLen at hlen; omega
  have hn2 : (us2.length : Int) ≤ 9223372036854775807 := by unfold maxLen at hlen2; omega
  clear h hlen hsv hsm hsq hsp h2 hlen2
  go_enter Try.func8, Try.ntmps8
  go_upto_region 3 with (go_at_call 18; refine ka.mono ?_; rintro e w1 ⟨rfl, hb1⟩; have HB1 := Lib.hid hb1; clear hb1)
  have ks := KS.out w1 HB1.out
  clear KS ka
  go_upto_region 5 with (first
    | (have _g := HR.out; clear _g; go_at_call 10; refine (KS2.out w2 HB2.out).mono ?_; rintro e w3 ⟨hb3, hsm⟩; obtain ⟨r2, rfl, hrr⟩ : ∃ r : Int, e = .returned (.int .i64 r) ∧ (r = 0 ∨ r = 1 ∧ SmallU us2) := (by rcases hsm with rfl | ⟨rfl, h⟩; exact ⟨0, rfl, .inl rfl⟩; exact ⟨1, rfl, .inr ⟨rfl, h⟩⟩); have HB3 := Lib.hid (HB2.out.trans (hb3.mono HB2.out.size)); have HR2 := Lib.hid hrr; clear hb3 hsm hrr)
    | (go_at_call 10; refine ks.mono ?_; rintro e w2 ⟨hb2, hsm⟩; obtain ⟨r, rfl, hrr⟩ : ∃ r : Int, e = .returned (.int .i64 r) ∧ (r = 0 ∨ r = 1 ∧ SmallU us) := (by rcases hsm with rfl | ⟨rfl, h⟩; exact ⟨0, rfl, .inl rfl⟩; exact ⟨1, rfl, .inr ⟨rfl, h⟩⟩); have HB2 := Lib.hid (HB1.out.trans (hb2.mono HB1.out.size)); have HR := Lib.hid hrr; clear hb2 hsm hrr))
  all_goals try (go_ret; first | exact ⟨rfl, HB3.out⟩ | exact ⟨rfl, HB2.out⟩)
  have hr0 : ¬ r = 0 := by assumption
  have hr20 : ¬ r2 = 0 := by assumption
  have hs20 : ((r == 0) = false ∧ (r2 == 0) = false) ∧ (run.length : Int) ≤ 20 := by assumption
  have hS : SmallU us := HR.out.elim (fun h => absurd h hr0) (fun h => h.2)
  have hS2 : SmallU us2 := HR2.out.elim (fun h => absurd h hr20) (fun h => h.2)
  have hsl : (run.length : Int) ≤ 20 := hs20.2
  have hU := H.out.later HB3.out
  have hn20 : (us.length : Int) ≤ 20 := by have := hS.1; omega
  have hn220 : (us2.length : Int) ≤ 20 := by have := hS2.1; omega
  have kn := new_any hU (by omega) (fun n hn => by have := hS.names n hn; omega) hS.bnd
  have KN := Lib.hid (fun w4 (hb : Below w.heap.size w w4) => new_any (H2.out.later hb) (by omega) (fun n hn => by have := hS2.names n hn; omega) hS2.bnd)
  clear ks hU hS hS2 hr0 hr20 hs20 HR HR2
  by_cases hE : errU us = 0
  · have kn1 : Calls Try.prog 11 #[.slice av us.length cv] w3 fun e w' => ∃ g nb, e = .returned (.tuple #[.pointer (some ⟨g, 0, none⟩), .int .i64 0, .string nb]) ∧ GAt w' g us (ordU us) ∧ Below w3.heap.size w3 w' := kn.mono fun e w' hp => by
      obtain ⟨gv, n, rfl, hb, _, hg, _⟩ := hp
      obtain ⟨g, rfl, hG⟩ := hg hE
      exact ⟨g, _, by rw [hE], hG, hb⟩
    have HE := Lib.hid hE
    clear kn hE
    go_upto_region 6 with (go_at_call 11; refine kn1.mono ?_; rintro e w4 ⟨g, nb, rfl, hG, hb4⟩; have HG := Lib.hid hG; have HB4 := Lib.hid (HB3.out.trans (hb4.mono HB3.out.size)); clear hG hb4)
    have kn := KN.out w4 HB4.out
    clear KN kn1
    by_cases hE2 : errU us2 = 0
    · have kn2 : Calls Try.prog 11 #[.slice av2 us2.length cv2] w4 fun e w' => ∃ g nb, e = .returned (.tuple #[.pointer (some ⟨g, 0, none⟩), .int .i64 0, .string nb]) ∧ GAt w' g us2 (ordU us2) ∧ Below w4.heap.size w4 w' := kn.mono fun e w' hp => by
        obtain ⟨gv, n, rfl, hb, _, hg, _⟩ := hp
        obtain ⟨g, rfl, hG⟩ := hg hE2
        exact ⟨g, _, by rw [hE2], hG, hb⟩
      have HE2 := Lib.hid hE2
      clear kn hE2
      go_upto_region 9 with (go_at_call 11; refine kn2.mono ?_; rintro e w5 ⟨h, nb2, rfl, hH, hb5⟩; have HH := Lib.hid hH; have HG5 := Lib.hid (HG.out.later hb5); have HB5 := Lib.hid (HB4.out.trans (hb5.mono HB4.out.size)); clear hH hb5)
      have kp := (restart_sl HG5.out HH.out (HSv.out.later HB5.out) (sts_nil w5)).mono (plan_none HE.out)
      clear kn2
      go_upto_region 10 with (first
        | (refine wpList_store_new rfl 42 (.tmp 13) (.tmp 59) rfl H6.out [_, _] w6.heap.size rfl rfl rfl rfl info_plan (plan_cells _ _ _ _ _ _ _ _ rfl rfl) ?_)
        | (go_at_call 19; refine kp.mono ?_; rintro e w6 ⟨a1, c1, a2, c2, rfl, hO⟩; have H6 := Lib.hid hO; clear hO))
      intro w7 hO7 _
      have HP0 := Lib.hid (show w7.cell? ⟨w6.heap.size, 0, none⟩ = some (.slice a1 0 c1) from hO7.cell 0 (by decide))
      have HP1 := Lib.hid (show w7.cell? ⟨w6.heap.size, 1, none⟩ = some (.slice a2 0 c2) from hO7.cell 1 (by decide))
      have HB7 := Lib.hid (HB5.out.trans (hO7.below.mono HB5.out.size))
      have HG7 := Lib.hid (HG5.out.later hO7.below)
      have HH7 := Lib.hid (HH.out.later hO7.below)
      clear hO7 kp H6 HG5 HH
      generalize w6.heap.size = b13 at *
      have knm := HG7.out.names
      have KQ := Lib.hid (fun (W : World) (vn : Value) (hO : Own w7 W [rowSs vn (sortN (namesU us))]) => (restart_sl (HG7.out.later hO.below) (HH7.out.later hO.below) (HSv.out.later (HB7.out.trans (hO.below.mono HB7.out.size))) hO.sts).mono (plan_all HE.out hO))
      go_upto_region 11 with (first
        | (refine wpList_store_new rfl 42 (.tmp 14) (.tmp 65) rfl H9.out [_, _] w9.heap.size rfl rfl rfl rfl info_plan (plan_cells _ _ _ _ _ _ _ _ rfl rfl) ?_)
        | (go_at_call 19; refine (KQ.out _ _ H8.out).mono ?_; rintro e w9 ⟨q1, n1, d1, q2, n2, d2, rfl, hn1, hn2, hO⟩; have H9 := Lib.hid hO; have HN1 := Lib.hid hn1; have HN2 := Lib.hid hn2; clear hO hn1 hn2)
        | (go_at_call 13; refine knm.mono ?_; rintro e w8 ⟨vn, rfl, hO8⟩; obtain ⟨an, nn, cn, rfl⟩ := hO8.sts.shape; have H8 := Lib.hid hO8; clear hO8))
      intro w10 hO10 _
      have HQ0 := Lib.hid (show w10.cell? ⟨w9.heap.size, 0, none⟩ = some (.slice q1 n1 d1) from hO10.cell 0 (by decide))
      have HQ1 := Lib.hid (show w10.cell? ⟨w9.heap.size, 1, none⟩ = some (.slice q2 n2 d2) from hO10.cell 1 (by decide))
      have HQS := Lib.hid (show Sts w10 (.slice q1 n1 d1) (runsN run (ordU us)).reverse from hO10.tail.sts)
      have HB10 := Lib.hid (HB7.out.trans (hO10.below.mono HB7.out.size))
      have HB710 := Lib.hid hO10.below
      have knm2 := (HG7.out.later hO10.below).names
      have HH10 := Lib.hid (HH7.out.later hO10.below)
      have HLN := Lib.hid (show (sortN (namesU us)).length ≤ 20 ∧ n1 ≤ 20 from by
        have h1 : (sortN (namesU us)).length = us.length := by rw [sortN_length]; unfold namesU; rw [List.length_map]
        have h2 := stop_count HE.out run
        have h3 : (runsN run (sortN (namesU us))).length ≤ (sortN (namesU us)).length := List.length_filter_le _ _
        have h4 := HN1.out
        omega)
      clear hO10 knm KQ H8 H9 HG7 HH7
      generalize w9.heap.size = b14 at *
      go_wp2_with (go_at_call 13; refine knm2.mono ?_; rintro e w11 ⟨vm, rfl, hO11⟩; obtain ⟨am, cm, rfl, _⟩ := id hO11.sts; have H11 := Lib.hid hO11; clear hO11)
      clear knm2
      have HB11 := Lib.hid (HB10.out.trans (H11.out.below.mono HB10.out.size))
      have HP0' := Lib.hid (cell_kept (HB710.out.trans (H11.out.below.mono HB710.out.size)) HP0.out)
      have HP1' := Lib.hid (cell_kept (HB710.out.trans (H11.out.below.mono HB710.out.size)) HP1.out)
      have HQ0' := Lib.hid (cell_kept H11.out.below HQ0.out)
      have HQ1' := Lib.hid (cell_kept H11.out.below HQ1.out)
      have HQS' := Lib.hid (HQS.out.later H11.out.below)
      have HH11 := Lib.hid (HH10.out.later H11.out.below)
      have HNS := Lib.hid H11.out.sts
      have HSr := Lib.hid (HSv.out.later HB11.out)
      clear HP0 HP1 HQ0 HQ1 HQS HB710 HH10 HB7 HB10 H11
      obtain ⟨NM, hNM⟩ : ∃ NM, sortN (namesU us) = NM := ⟨_, rfl⟩
      rw [hNM] at HLN HNS
      rw [hNM]
      obtain ⟨m, hm⟩ : ∃ m, NM.length = m := ⟨_, rfl⟩
      rw [hm]
      rw [hm] at HLN HNS
      have hm20 : (m : Int) ≤ 20 := by have := HLN.out.1; omega
      have hn120 : (n1 : Int) ≤ 20 := by have := HLN.out.2; omega
      have HM := Lib.hid hm
      have HNM := Lib.hid hNM
      clear hm hNM
      go_loopw [15, 69] (fun s15 s69 wr => ∃ k : Nat, k ≤ m ∧ s15 = .int .i64 ((runsN run (NM.take k)).length : Nat) ∧ s69 = .int .i64 k ∧ w11 = wr) (fun _ s69 _ => m - (intOf s69).toNat)
      case atStart => exact ⟨0, Nat.zero_le _, rfl, rfl, rfl⟩
      case round =>
        obtain ⟨k, hk, rfl, rfl, rfl⟩ := hrel
        by_cases hlt : k < m
        · have hkl : k < NM.length := by rw [HM.out]; exact hlt
          obtain ⟨b, o, rfl, ck⟩ := sts_cell HNS.out HM.out.symm hkl
          have kh := has15_any (.slice sa run.length sc) run NM[k] w11 HSr.out
          have hp := runs_take run NM k hkl
          have hcl : (runsN run (NM.take k)).length ≤ k := Nat.le_trans (List.length_filter_le _ _) (by rw [List.length_take]; omega)
          have hkz : (k : Int) < (m : Int) := by omega
          by_cases hx : NM[k] ∈ run
          · rw [if_pos hx] at hp
            rw [decide_eq_true hx] at kh
            have HP := Lib.hid hp
            clear hp hx
            generalize (runsN run (NM.take k)).length = ct at *
            have hcz : (ct : Int) ≤ 20 := by omega
            generalize toB NM[k] = xb at *
            clear hkl hcl
            go_wp2_with (go_at_call 23; refine kh.mono ?_; rintro e w12 ⟨rfl, rfl⟩)
            go_roundw
            case rel => exact ⟨k + 1, by omega, by rw [HP.out]; go_num, by go_num, trivial⟩
            case measure => simp [intOf]; omega
          · rw [if_neg hx, Nat.add_zero] at hp
            rw [decide_eq_false hx] at kh
            have HP := Lib.hid hp
            clear hp hx
            generalize (runsN run (NM.take k)).length = ct at *
            generalize toB NM[k] = xb at *
            clear hkl hcl
            go_wp2_with (go_at_call 23; refine kh.mono ?_; rintro e w12 ⟨rfl, rfl⟩)
            go_roundw
            case rel => exact ⟨k + 1, by omega, by rw [HP.out]; rfl, by go_num, trivial⟩
            case measure => simp [intOf]; omega
        · obtain rfl : k = m := by omega
          have hc1 : (runsN run (NM.take k)).length = n1 := by
            rw [List.take_of_length_le (by rw [HM.out]; exact Nat.le_refl _), ← HNM.out, stop_count HE.out run, HN1.out]
          rw [hc1]
          clear hc1
          have hq0 := HQ0'.out
          go_wp2_with fail
          obtain ⟨SR, hSR⟩ : ∃ SR, (runsN run (ordU us)).reverse = SR := ⟨_, rfl⟩
          have hn1' := HN1.out
          have hcnt := start_count HE.out HE2.out run
          rw [hSR] at hn1' HQS' hcnt
          rw [← HN2.out] at hcnt
          have HC2 := Lib.hid hcnt
          have HN1' := Lib.hid hn1'
          have hg5 := HH11.out
          clear hSR hn1' hcnt hq0 HN1 HN2
          have Hn20 := Lib.hid hn120
          go_loopw [18, 82] (fun s18 s82 wr => ∃ j : Nat, j ≤ n1 ∧ s18 = .int .i64 (((SR.take j).filter fun n => decide (n ∈ namesU us2)).length : Nat) ∧ s82 = .int .i64 j ∧ Own w11 wr []) (fun _ s82 _ => n1 - (intOf s82).toNat)
          case atStart => exact ⟨0, Nat.zero_le _, rfl, rfl, Own.start w11⟩
          case round =>
            obtain ⟨j, hj, rfl, rfl, hO⟩ := hrel
            by_cases hlt : j < n1
            · have hjl : j < SR.length := by rw [← HN1'.out]; exact hlt
              obtain ⟨b, o, rfl, cj⟩ := sts_cell (HQS'.out.later hO.below) HN1'.out hjl
              have kg := (HH11.out.later hO.below).get SR[j]
              have hcl : ((SR.take j).filter fun n => decide (n ∈ namesU us2)).length ≤ j := Nat.le_trans (List.length_filter_le _ _) (by rw [List.length_take]; omega)
              have hp : ((SR.take (j + 1)).filter fun n => decide (n ∈ namesU us2)).length = ((SR.take j).filter fun n => decide (n ∈ namesU us2)).length + if SR[j] ∈ namesU us2 then 1 else 0 := by
                rw [List.take_succ_eq_append_getElem hjl, List.filter_append, List.length_append]
                by_cases h : SR[j] ∈ namesU us2 <;> simp [h]
              have hjz : (j : Int) < (n1 : Int) := by omega
              have HO := Lib.hid hO
              clear hO
              by_cases hx : SR[j] ∈ namesU us2
              · rw [if_pos hx] at hp
                rw [decide_eq_true hx] at kg
                have HP := Lib.hid hp
                clear hp hx
                generalize ((SR.take j).filter fun n => decide (n ∈ namesU us2)).length = ct at *
                have hcz : (ct : Int) ≤ 20 := by omega
                generalize toB SR[j] = xb at *
                clear hjl hcl
                go_upto_region 23 with (first
                  | (refine wpList_store_new rfl 34 (.tmp 21) (.tmp 90) rfl H20.out cs w20.heap.size rfl rfl rfl HL8.out.symm (HL8.out ▸ info_uv) HON.out ?_)
                  | (go_at_call 30; refine kg.mono ?_; rintro e w20 ⟨cs, hl8, hone, rfl, hb20⟩; have H20 := Lib.hid (Own.of_below (HO.out.below.trans (hb20.mono HO.out.below.size))); have HL8 := Lib.hid hl8; have HON := Lib.hid hone; clear hl8 hone hb20))
                intro w21 hO21 _
                have HO21 := Lib.hid hO21.tail
                clear hO21
                go_wp2_with fail
                go_roundw
                case rel => exact ⟨j + 1, by omega, by rw [HP.out]; go_num, by go_num, HO21.out⟩
                case measure => simp [intOf]; omega
              · rw [if_neg hx, Nat.add_zero] at hp
                rw [decide_eq_false hx] at kg
                have HP := Lib.hid hp
                clear hp hx
                generalize ((SR.take j).filter fun n => decide (n ∈ namesU us2)).length = ct at *
                generalize toB SR[j] = xb at *
                clear hjl hcl
                go_upto_region 23 with (first
                  | (refine wpList_store_new rfl 34 (.tmp 21) (.tmp 90) rfl H20.out cs w20.heap.size rfl rfl rfl HL8.out.symm (HL8.out ▸ info_uv) HON.out ?_)
                  | (go_at_call 30; refine kg.mono ?_; rintro e w20 ⟨cs, hl8, hone, rfl, hb20⟩; have H20 := Lib.hid (Own.of_below (HO.out.below.trans (hb20.mono HO.out.below.size))); have HL8 := Lib.hid hl8; have HON := Lib.hid hone; clear hl8 hone hb20))
                intro w21 hO21 _
                have HO21 := Lib.hid hO21.tail
                clear hO21
                go_wp2_with fail
                go_roundw
                case rel => exact ⟨j + 1, by omega, by rw [HP.out]; rfl, by go_num, HO21.out⟩
                case measure => simp [intOf]; omega
            · obtain rfl : j = n1 := by omega
              have hc2 : ((SR.take j).filter fun n => decide (n ∈ namesU us2)).length = n2 := by
                rw [List.take_of_length_le (by rw [← HN1'.out]; exact Nat.le_refl _)]
                exact HC2.out
              rw [hc2]
              clear hc2
              have p0 := cell_kept hO.below HP0'.out
              have p1 := cell_kept hO.below HP1'.out
              have q0 := cell_kept hO.below HQ0'.out
              have q1' := cell_kept hO.below HQ1'.out
              have HBx := Lib.hid (HB11.out.trans (hO.below.mono HB11.out.size))
              clear hO
              go_wp2_with fail
              go_ret
              exact ⟨rfl, HBx.out⟩
    · have kn2 : Calls Try.prog 11 #[.slice av2 us2.length cv2] w4 fun e w' => ∃ gv x nb, e = .returned (.tuple #[gv, .int .i64 x, .string nb]) ∧ x ≠ 0 ∧ Below w4.heap.size w4 w' := kn.mono fun e w' hp => by
        obtain ⟨gv, n, rfl, hb, _⟩ := hp
        exact ⟨gv, _, _, rfl, hE2, hb⟩
      clear kn hE2
      go_wp2_with (go_at_call 11; refine kn2.mono ?_; rintro e w5 ⟨gv, x, nb2, rfl, hx, hb5⟩; have HB5 := Lib.hid (HB4.out.trans (hb5.mono HB4.out.size)); have hx2 : (x == 0) = false := beq_eq_false_iff_ne.2 hx; clear hx hb5)
      go_ret
      exact ⟨rfl, HB5.out⟩
  · have kn1 : Calls Try.prog 11 #[.slice av us.length cv] w3 fun e w' => ∃ gv x nb, e = .returned (.tuple #[gv, .int .i64 x, .string nb]) ∧ x ≠ 0 ∧ Below w3.heap.size w3 w' := kn.mono fun e w' hp => by
      obtain ⟨gv, n, rfl, hb, _⟩ := hp
      exact ⟨gv, _, _, rfl, hE, hb⟩
    clear kn hE
    go_upto_region 6 with (go_at_call 11; refine kn1.mono ?_; rintro e w4 ⟨gv, x, nb, rfl, hx, hb4⟩; have HB4 := Lib.hid (HB3.out.trans (hb4.mono HB3.out.size)); have hx2 : (x == 0) = false := beq_eq_false_iff_ne.2 hx; clear hx hb4)
    have kn2 : Calls Try.prog 11 #[.slice av2 us2.length cv2] w4 fun e w' => ∃ gv x nb, e = .returned (.tuple #[gv, .int .i64 x, .string nb]) ∧ Below w4.heap.size w4 w' := (KN.out w4 HB4.out).mono fun e w' hp => by
      obtain ⟨gv, n, rfl, hb, _⟩ := hp
      exact ⟨gv, _, _, rfl, hb⟩
    clear KN kn1
    go_wp2_with (go_at_call 11; refine kn2.mono ?_; rintro e w5 ⟨gv2, x2, nb2, rfl, hb5⟩; have HB5 := Lib.hid (HB4.out.trans (hb5.mono HB4.out.size)); clear hb5)
    go_ret
    exact ⟨rfl, HB5.out⟩
end Go.Proofs.Ytnpadnghocofdaa
