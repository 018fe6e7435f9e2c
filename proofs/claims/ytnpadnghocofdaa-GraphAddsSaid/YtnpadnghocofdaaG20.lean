/- The law GraphOrders returns true, and turns nothing that was there. -/
import Derived.Test.YtnpadnghocofdaaG19
namespace Go.Proofs.Ytnpadnghocofdaa
open Go.RowKit
open Go.ChangeMaps (setBlock)
set_option linter.unusedVariables false
set_option linter.unusedSimpArgs false
set_option maxRecDepth 100000

theorem run_mk29 (w : World) : (Instr.makeMap 29 none).run Try.prog w = .ok (.map (some w.heap.size)) (w.alloc (.map #[] 0)) := rfl
theorem und_pos : Try.prog.underlying 29 = some (.map 9 3) := by kernel_rfl
theorem Own.cellMem {W0 : Base} {w : World} {L : List Rw} {e size g n cap : Nat} {xs : List Value} (h : Own W0 w L) (hm : (⟨e, size, .slice (some ⟨g, 0, none⟩) n cap, n, xs⟩ : Rw) ∈ L) (j : Nat) (hj : j < n * size) : w.cell? ⟨g, j, none⟩ = xs[j]? := by
  obtain ⟨A, B, e⟩ := List.append_of_mem hm
  rw [e] at h
  exact (h.perm List.perm_middle).cell j hj
theorem sts_src {w : World} {v : Value} {ls : List Nm} (h : Sts w v ls) (hz : v = .slice none 0 0 ∨ ∃ a n c, v = .slice (some a) n c) : Src w v ls.length (strs ls) := by
  rcases hz with rfl | ⟨a, n, c, rfl⟩
  · obtain ⟨a', c', e, _⟩ := h
    injection e with _ e2 _
    have e3 : ls = [] := List.length_eq_zero_iff.1 e2.symm
    subst e3
    exact .inl ⟨rfl, rfl, rfl⟩
  · obtain ⟨_, ad, e, hs⟩ := h.src (by simp)
    injection e with e
    subst e
    exact hs
set_option maxHeartbeats 16000000 in
theorem orders_law (w : World) (v : Value) (us : List GU) (h : UArg w v us) (hlen : us.length ≤ maxLen) :
    Calls Try.prog 3 #[v] w fun e w' => e = .returned (.bool true) ∧ Below w.heap.size w w' := by
  obtain ⟨i0, hi, hz0, hz1, hz2⟩ := infoS_ex
  obtain ⟨av, cv, hv⟩ : ∃ a c, v = .slice a us.length c := by obtain ⟨a, c, _, e, _⟩ := h; exact ⟨a, c, e⟩
  have H := Lib.hid h
  have ka := alive14_any w
  have KS := Lib.hid (fun w1 (hb : Below w.heap.size w w1) => small_any (h.later hb) hlen)
  subst hv
  have hn : (us.length : Int) ≤ 9223372036854775807 := by unfold maxLen at hlen; omega
  clear h hlen
  go_enter Try.func3, Try.ntmps3
  go_upto_region 3 with (go_at_call 9; refine ka.mono ?_; rintro e w1 ⟨rfl, hb1⟩; have HB1 := Lib.hid hb1; clear hb1)
  have ks := KS.out w1 HB1.out
  clear KS
  go_upto_region 5 with (go_at_call 10; refine ks.mono ?_; rintro e w2 ⟨hb2, hsm⟩; obtain ⟨r, rfl, hrr⟩ : ∃ r : Int, e = .returned (.int .i64 r) ∧ (r = 0 ∨ r = 1 ∧ SmallU us) := (by rcases hsm with rfl | ⟨rfl, h⟩; exact ⟨0, rfl, .inl rfl⟩; exact ⟨1, rfl, .inr ⟨rfl, h⟩⟩); have HB2 := Lib.hid (HB1.out.trans (hb2.mono HB1.out.size)); have HR := Lib.hid hrr; clear hb2 hsm hrr)
  · go_ret
    exact ⟨rfl, HB2.out⟩
  · have hr0 : (r == 0) = false := by assumption
    have hS : SmallU us := by
      rcases HR.out with h | ⟨_, h⟩
      · rw [h] at hr0; cases hr0
      · exact h
    have HS := Lib.hid hS
    have hU2 := H.out.later HB2.out
    have hl20 : us.length ≤ 20 := hS.1
    have hn20 : (us.length : Int) ≤ 20 := by omega
    have HL20 := Lib.hid hl20
    have hbn := hS.bnd
    have hnm : ∀ n ∈ namesU us, n.length ≤ 1000000 := fun n hn => by have := hS.names n hn; omega
    clear hS ka ks HR hr0 hn
    by_cases hE : errU us = 0
    · have kn := new_ok hU2 (by omega) hnm hbn hE
      have HE := Lib.hid hE
      clear hE hU2 hbn hnm hl20
      go_upto_region 8 with (go_at_call 11; refine kn.mono ?_; rintro e w3 ⟨g, nb, rfl, hG, hb3⟩; have HG := Lib.hid hG; have HB3 := Lib.hid (HB2.out.trans (hb3.mono HB2.out.size)); clear hG hb3)
      have m1 := run_mk29
      have O4 := (Own.start w3).newB_at (.map #[] 0) w3.heap.size rfl
      have HO4 := Lib.hid O4
      have kN := (HG.out.later O4.below).names
      clear O4
      go_upto_region 10 with (first
        | (go_at_call 13; refine kN.mono ?_; rintro e w5 ⟨vN, rfl, hO5⟩; have HO5 := Lib.hid (HO4.out.join hO5); clear hO5)
        | (go_at_call 12; refine ((HG.out.later HO5.out.below).order HO5.out.sts).mono ?_; rintro e w6 ⟨vo, rfl, hO6⟩; rw [pick_all HE.out] at hO6; have HO6 := Lib.hid (HO5.out.join hO6); clear hO6))
      clear m1 kN
      obtain ⟨ao, no, co, hvo⟩ := HO6.out.sts.shape
      subst hvo
      have hno : no = (ordU us).length := by
        obtain ⟨a', c', e', _⟩ := HO6.out.sts
        injection e'
      have holen : (ordU us).length = us.length := by rw [(ordU_perm HE.out).length_eq]; simp [namesU]
      have hnon : no = us.length := hno.trans holen
      have Hno := Lib.hid hno
      have Hnon := Lib.hid hnon
      have hno20 : (no : Int) ≤ 20 := by omega
      have H6 := Lib.hid (show Own ⟨w3, [(w3.heap.size, .map #[] 0)]⟩ w6 [rowSs (.slice ao no co) (ordU us)] from by
        have := HO6.out
        exact this.swap.tail)
      clear hno holen hnon HO6 HO5
      generalize hord : ordU us = ord at *
      have HORD := Lib.hid hord
      clear hord
      generalize hbm : w3.heap.size = bm at *
      have HBM := Lib.hid hbm
      clear hbm
      go_wp2_with fail
      go_loopw [38] (fun s wr => ∃ (k : Nat) (om : Obj), k ≤ no ∧ s = .int .i64 k ∧ Own ⟨w3, [(bm, om)]⟩ wr [rowSs (.slice ao no co) ord] ∧ MapO keyN om (entsI 0 (ord.take k))) (fun s _ => no - (intOf s).toNat)
      case atStart => exact ⟨0, _, Nat.zero_le _, rfl, H6.out, MapO.empty _⟩
      case round =>
        obtain ⟨k, om, hk, rfl, hO, hm⟩ := hrel
        by_cases hlt : k < no
        · have hko : k < ord.length := by rw [← Hno.out]; exact hlt
          obtain ⟨go, hgo⟩ : ∃ go, ao = some ⟨go, 0, none⟩ := by
            obtain ⟨go, cap, e, _⟩ := hO.form (by omega)
            injection e with e _ _
            exact ⟨go, e⟩
          subst hgo
          have ck : wr.cell? ⟨go, k, none⟩ = some (.string (toB ord[k])) := by
            have h5 := hO
            rw [Hno.out] at h5
            exact Own.str h5 k hko
          have hmem : (bm, om) ∈ [(bm, om)] := List.mem_cons_self ..
          obtain ⟨om', hup, hm2⟩ := hm.update (P := Try.prog) (kindsN und_str) und_pos (hO.at hmem) ord[k] (.int .i64 ((k : Int) + 1))
          have hup : (Instr.mapUpdate 29 (.map (some bm)) (.string (toB ord[k])) (.int .i64 ((k : Int) + 1))).run Try.prog wr = .ok () (setBlock wr bm om') := hup
          have ht : ord.take (k + 1) = ord.take k ++ [ord[k]] := List.take_succ_eq_append_getElem hko
          have hnd : (ord.take (k + 1)).Nodup := by
            have := ((ordU_perm HE.out).nodup_iff).2 (errU_ok HE.out).2.1
            rw [HORD.out] at this
            exact this.sublist (List.take_sublist _ _)
          rw [put_fresh (by
            rw [entsI_keys]
            rw [ht] at hnd
            intro hmm
            exact (List.nodup_append.1 hnd).2.2 _ hmm ord[k] (List.mem_singleton.2 rfl) rfl)] at hm2
          have hm3 : MapO keyN om' (entsI 0 (ord.take (k + 1))) := by
            rw [ht, entsI_snoc, List.length_take, Nat.zero_add, show min k ord.length = k from by omega]
            exact hm2
          have hO2 := hO.setB hmem om'
          have hup2 : upd [(bm, om)] bm om' = [(bm, om')] := by simp [upd]
          rw [hup2] at hO2
          have HX := Lib.hid (show Own ⟨w3, [(bm, om')]⟩ (setBlock wr bm om') [rowSs (.slice (some ⟨go, 0, none⟩) no co) ord] ∧ MapO keyN om' (entsI 0 (ord.take (k + 1))) from ⟨hO2, hm3⟩)
          have hklt : (k : Int) < (no : Int) := by omega
          clear hO hm hmem hm2 ht hnd hm3 hO2 hup2
          generalize ord[k] = nm at *
          generalize toB nm = nmb at *
          go_wp2_with fail
          go_roundw
          case rel => exact ⟨k + 1, om', by omega, by go_num, HX.out.1, HX.out.2⟩
          case measure => simp [intOf]; omega
        · obtain rfl : k = no := by omega
          have hko : k = us.length := Hnon.out
          have hlo : k = ord.length := Hno.out
          have hmm : MapO keyN om (entsI 0 ord) := by
            have := hm
            rwa [List.take_of_length_le (by omega)] at this
          have hml : ∀ ty, (Builtin.len_ #[29] ty #[.map (some bm)]).run Try.prog wr = .ok (.int .i64 (us.length : Int)) wr := fun ty => by
            have := hmm.length (P := Try.prog) und_pos (hO.at (List.mem_cons_self ..)) ty
            rw [entsI_len, ← hlo, hko] at this
            exact this
          have HO := Lib.hid (show Own ⟨w3, [(bm, om)]⟩ wr [] from hO.tail)
          have HMM := Lib.hid hmm
          clear hm hlo hlt hO hmm
          subst hko
          have hU := Lib.hid (H.out.later HB3.out)
          go_wp2_with fail
          clear hml
          go_loopw [62] (fun s wr => ∃ (k : Nat), k ≤ us.length ∧ s = .int .i64 k ∧ Own ⟨w3, [(bm, om)]⟩ wr []) (fun s _ => us.length - (intOf s).toNat)
          case atStart => exact ⟨0, Nat.zero_le _, rfl, HO.out⟩
          case round =>
            obtain ⟨k, hk, rfl, hO⟩ := hrel
            by_cases hlt : k < us.length
            · obtain ⟨a9, c9, xs, e9, hUn, hR⟩ := hU.out
              injection e9 with e9 _ e11
              subst e9 e11
              have hkx : k < xs.length := by rw [hUn.len]; exact hlt
              obtain ⟨⟨b, o, rfl, hrg⟩, hnil⟩ := hR k hkx
              have hbw : Below w3.heap.size w3 wr := hO.below
              have hrg2 : wr.rangeAt b (o + k * 8) xs[k].cells := fun j u hj => by
                have h2 := hrg j u hj
                exact (hbw.cell (p := ⟨b, o + k * 8 + j, none⟩) (World.block_lt_of_cell? w3 ⟨b, o + k * 8 + j, none⟩ h2)).trans h2
              have hUk := (hUn.at k hkx hlt).later hbw
              have HUk := Lib.hid hUk
              have HUW := Lib.hid (hUn.at k hkx hlt)
              have Hone := Lib.hid hUk.one
              have hcsp : (Try.prog.info? 34).map (·.size) = some xs[k].cells.length := info_uv
              have h8 := Lib.hid (show (8 : Nat) = xs[k].cells.length from rfl)
              have D := Lib.hid (show xs[k].cells = [.string (toB xs[k].name), xs[k].v1, xs[k].v2, xs[k].v3, xs[k].v4, xs[k].v5, xs[k].v6, .int .i64 xs[k].ret] from rfl)
              have HOk := Lib.hid hO
              have hklt : (k : Int) < (us.length : Int) := by omega
              have Hmem := Lib.hid (show us[k] ∈ us from List.getElem_mem hlt)
              clear hrg hUk hbw hO hR hUn
              generalize xs[k] = X at *
              generalize us[k] = u at *
              generalize X.cells = pcs at *
              go_upto_region 20 with (first
                | (refine wpList_load_mid rfl 34 (.tmp 64) rfl b (o + k * 8) rfl pcs _ hrg2 Try.underlying34 rfl hcsp ?_)
                | (refine wpList_store_new rfl 34 (.tmp 11) (.tmp 65) rfl HOk.out pcs wr.heap.size rfl rfl rfl h8.out hcsp Hone.out ?_))
              intro w4 hO4 _
              have q : ∀ j, j < 8 → w4.cell? ⟨wr.heap.size, j, none⟩ = pcs[j]? := fun j hj => hO4.cell j (by rw [← h8.out]; omega)
              have d0 := q 0 (by decide)
              have d2 := q 2 (by decide)
              have d3 := q 3 (by decide)
              have d4 := q 4 (by decide)
              rw [D.out] at d0 d2 d3 d4
              simp only [List.getElem?_cons_zero, List.getElem?_cons_succ] at d0 d2 d3 d4
              rw [HUk.out.name] at d0
              obtain ⟨a2, c2, e2, _⟩ := id HUk.out.s2
              obtain ⟨a3, c3, e3, _⟩ := id HUk.out.s3
              obtain ⟨a4, c4, e4, _⟩ := id HUk.out.s4
              rw [e2] at d2
              rw [e3] at d3
              rw [e4] at d4
              have hf2 : (u.af.length : Int) ≤ 10 ∧ (u.re.length : Int) ≤ 10 := by
                have h1 := (HS.out.2 u Hmem.out u.af (by simp [GU.lists])).1
                have h2 := (HS.out.2 u Hmem.out u.re (by simp [GU.lists])).1
                omega
              generalize wr.heap.size = b11 at *
              have HC := Lib.hid (fun W L (hO : Own ⟨w3, [(bm, om)]⟩ W L) (hm : (⟨34, pcs.length, .slice (some ⟨b11, 0, none⟩) 1 1, 1, pcs⟩ : Rw) ∈ L) => (show W.cell? ⟨b11, 2, none⟩ = some (.slice a2 u.af.length c2) ∧ W.cell? ⟨b11, 4, none⟩ = some (.slice a4 u.re.length c4) from by
                have p8 := h8.out
                exact ⟨(hO.cellMem hm 2 (by omega)).trans ((hO4.cell 2 (by omega)).symm.trans d2), (hO.cellMem hm 4 (by omega)).trans ((hO4.cell 4 (by omega)).symm.trans d4)⟩))
              have HC0 := Lib.hid (fun W L (hO : Own ⟨w3, [(bm, om)]⟩ W L) (hm : (⟨34, pcs.length, .slice (some ⟨b11, 0, none⟩) 1 1, 1, pcs⟩ : Rw) ∈ L) => (show W.cell? ⟨b11, 0, none⟩ = some (.string (toB u.name)) ∧ W.cell? ⟨b11, 3, none⟩ = some (.slice a3 u.be.length c3) from by
                have p8 := h8.out
                exact ⟨(hO.cellMem hm 0 (by omega)).trans ((hO4.cell 0 (by omega)).symm.trans d0), (hO.cellMem hm 3 (by omega)).trans ((hO4.cell 3 (by omega)).symm.trans d3)⟩))
              have HS2 := Lib.hid (fun W (hb : Below w3.heap.size w3 W) => (show Sts W (.slice a2 u.af.length c2) u.af ∧ Sts W (.slice a3 u.be.length c3) u.be ∧ Sts W (.slice a4 u.re.length c4) u.re from by
                have hh := HUW.out.later hb
                exact ⟨e2 ▸ hh.s2, e3 ▸ hh.s3, e4 ▸ hh.s4⟩))
              have HSrc := Lib.hid (fun W (hb : Below w3.heap.size w3 W) => (show Src W (.slice a2 u.af.length c2) u.af.length (strs u.af) ∧ Src W (.slice a4 u.re.length c4) u.re.length (strs u.re) from by
                obtain ⟨h1, _, h3⟩ := HS2.out W hb
                exact ⟨sts_src h1 (e2 ▸ hnil _ (by simp)), sts_src h3 (e4 ▸ hnil _ (by simp))⟩))
              have HZ := Lib.hid (hO4.made 9 1 #[] 0 rfl (Nat.zero_le _))
              have HZd := Lib.hid (hO4.drew.made 9 1 #[] 0 rfl (Nat.zero_le _))
              have hS4 := HC.out w4 _ hO4 (List.mem_cons_self ..)
              have hS4d := HC.out w4.drew _ hO4.drew (List.mem_cons_self ..)
              have HSZ := Lib.hid (HC.out _ _ HZ.out (List.mem_cons_of_mem _ (List.mem_cons_self ..)))
              have HSZd := Lib.hid (HC.out _ _ HZd.out (List.mem_cons_of_mem _ (List.mem_cons_self ..)))
              have Hb1 := Lib.hid (show 0 + u.af.length ≤ maxLen from by unfold maxLen; omega)
              have Hb2 := Lib.hid (show (0 + u.af.length) * 16 ≤ 140737488355328 from by omega)
              have Hb3 := Lib.hid (show 0 + u.af.length + u.re.length ≤ maxLen from by unfold maxLen; omega)
              have Hb4 := Lib.hid (show (0 + u.af.length + u.re.length) * 16 ≤ 140737488355328 from by omega)
              clear q d0 d2 d3 d4 e2 e3 e4 hnil D
              go_wp2_with fail
              go_region_held3 (fun W : World => W.cell? ⟨b11, 2, none⟩ = some (.slice a2 u.af.length c2) ∧ W.cell? ⟨b11, 4, none⟩ = some (.slice a4 u.re.length c4)) (first | exact hS4 | exact hS4d | exact HSZ.out | exact HSZd.out | exact hS6 | exact hS6d | exact hS7 | exact hS7d) (first
                | (have _g := HA1.out; clear _g; refine step_append_src (by rfl) (.tmp 69) (.tmp 71) 30 (by rfl) v6 (0 + u.af.length) ([] ++ strs u.af) (.slice a4 u.re.length c4) u.re.length (strs u.re) (by rfl) (by rfl) (by first | exact HA1.out | exact HA1.out.drew) i0 (.string ⟨#[]⟩) 16 Try.underlying30 hi hz0 hz1 hz2 rfl (by decide) (by first | exact (HSrc.out _ HA1.out.below).2 | exact (HSrc.out _ HA1.out.drew.below).2) (by simp) Hb3.out Hb4.out ?_; intro v7 w7 hO7; have HA2 := Lib.hid hO7; have hS7 := HC.out w7 _ hO7 (List.mem_cons_of_mem _ (List.mem_cons_self ..)); have hS7d := HC.out w7.drew _ hO7.drew (List.mem_cons_of_mem _ (List.mem_cons_self ..)); obtain ⟨a7, c7, hv7, _, _⟩ := hO7.sized; subst hv7; clear hO7)
                | (refine step_append_src (by rfl) (.tmp 66) (.tmp 68) 30 (by rfl) (.slice (some ⟨w4.heap.size, 0, none⟩) 0 0) 0 [] (.slice a2 u.af.length c2) u.af.length (strs u.af) (by rfl) (by rfl) (by first | exact HZ.out | exact HZ.out.drew | exact HZd.out | exact HZd.out.drew) i0 (.string ⟨#[]⟩) 16 Try.underlying30 hi hz0 hz1 hz2 rfl (by decide) (by first | exact (HSrc.out _ HZ.out.below).1 | exact (HSrc.out _ HZ.out.drew.below).1 | exact (HSrc.out _ HZd.out.below).1 | exact (HSrc.out _ HZd.out.drew.below).1) (by simp) Hb1.out Hb2.out ?_; intro v6 w6 hO6; have HA1 := Lib.hid hO6; have hS6 := HC.out w6 _ hO6 (List.mem_cons_of_mem _ (List.mem_cons_self ..)); have hS6d := HC.out w6.drew _ hO6.drew (List.mem_cons_of_mem _ (List.mem_cons_self ..)); clear hO6))
              go_wp2_with fail
              have hrow : Own ⟨w3, [(bm, om)]⟩ w7 (rowSs (.slice a7 (0 + u.af.length + u.re.length) c7) (u.af ++ u.re) :: [⟨34, pcs.length, .slice (some ⟨b11, 0, none⟩) 1 1, 1, pcs⟩]) := by
                have := HA2.out
                show Own _ w7 (⟨9, 1, _, (u.af ++ u.re).length, strs (u.af ++ u.re)⟩ :: _)
                rw [List.length_append, show strs (u.af ++ u.re) = [] ++ strs u.af ++ strs u.re from by simp [strs]]
                rw [show 0 + u.af.length + u.re.length = u.af.length + u.re.length from by omega] at this ⊢
                exact this
              obtain ⟨N, hN⟩ : ∃ N, 0 + u.af.length + u.re.length = N := ⟨_, rfl⟩
              have hNl : (u.af ++ u.re).length = N := by rw [List.length_append]; omega
              have hN20 : (N : Int) ≤ 20 := by omega
              rw [hN] at hrow
              have HRW := Lib.hid hrow
              have HNL := Lib.hid hNl
              have HNN := Lib.hid hN
              obtain ⟨q0, q3⟩ := HC0.out w7 _ hrow (List.mem_cons_of_mem _ (List.mem_cons_self ..))
              have hpos := fun x => kinds_pos (zero_int w7) HMM.out (hrow.at (List.mem_cons_self ..)) x
              have HPos := Lib.hid hpos
              have hnm := hpos u.name
              have HQ3 := Lib.hid q3
              clear hrow hNl hS4 hS4d hS6 hS6d hS7 hS7d HA1 HA2 hpos q3 hf2
              rw [hN]
              clear hN
              go_loopw [74] (fun s wq => ∃ j : Nat, j ≤ N ∧ s = .int .i64 j ∧ w7 = wq) (fun s _ => N - (intOf s).toNat)
              case atStart => exact ⟨0, Nat.zero_le _, rfl, rfl⟩
              case round =>
                obtain ⟨j, hj, rfl, rfl⟩ := hrel
                by_cases hjl : j < N
                · have hjx : j < (u.af ++ u.re).length := by rw [HNL.out]; exact hjl
                  obtain ⟨g7, hg7⟩ : ∃ g7, a7 = some ⟨g7, 0, none⟩ := by
                    obtain ⟨g7, cap, e, _⟩ := HRW.out.form (by omega)
                    injection e with e _ _
                    exact ⟨g7, e⟩
                  subst hg7
                  have cx : w7.cell? ⟨g7, j, none⟩ = some (.string (toB (u.af ++ u.re)[j])) := by
                    have h5 := HRW.out
                    rw [← HNL.out] at h5
                    exact Own.str h5 j hjx
                  have hlx := HPos.out (u.af ++ u.re)[j]
                  have hlt9 : ((posN ord (u.af ++ u.re)[j] : Nat) : Int) < ((posN ord u.name : Nat) : Int) := by
                    have := ord_after HE.out Hmem.out (List.getElem_mem hjx)
                    rw [HORD.out] at this
                    omega
                  have hjz : (j : Int) < (u.af.length : Int) + (u.re.length : Int) := by have := HNN.out; omega
                  generalize posN ord (u.af ++ u.re)[j] = px at *
                  generalize posN ord u.name = pn at *
                  generalize toB (u.af ++ u.re)[j] = xb at *
                  generalize toB u.name = nb9 at *
                  clear hjx
                  go_wp2_with fail
                  go_roundw
                  case rel => exact ⟨j + 1, by omega, by go_num, trivial⟩
                  case measure => simp [intOf]; omega
                · have hjz : (u.af.length : Int) + (u.re.length : Int) ≤ (j : Int) := by have := HNN.out; omega
                  have hq3 := HQ3.out
                  have HO9 := Lib.hid (show Own ⟨w3, [(bm, om)]⟩ w7 [] from HRW.out.tail.tail)
                  obtain ⟨_, hs3, _⟩ := HS2.out w7 HO9.out.below
                  obtain ⟨_, _, e9, _, _, h49⟩ := id hs3
                  have hbe : (u.be.length : Int) ≤ 10 := by
                    have h1 := (HS.out.2 u Hmem.out u.be (by simp [GU.lists])).1
                    omega
                  have H49 := Lib.hid h49
                  have E9 := Lib.hid e9
                  clear hs3 h49 e9
                  go_wp2_with fail
                  go_loopw [90] (fun s wq => ∃ i : Nat, i ≤ u.be.length ∧ s = .int .i64 i ∧ w7 = wq) (fun s _ => u.be.length - (intOf s).toNat)
                  case atStart => exact ⟨0, Nat.zero_le _, rfl, rfl⟩
                  case round =>
                    obtain ⟨i, hii, rfl, rfl⟩ := hrel
                    by_cases hil : i < u.be.length
                    · obtain ⟨b9, o9, hf9, _, hc9⟩ := H49.out (by omega)
                      have e10 := E9.out
                      injection e10 with e10 _ _
                      rw [← e10] at hf9
                      subst hf9
                      have cx := hc9 i hil
                      have hlx := HPos.out u.be[i]
                      have hlt9 : posN ord u.be[i] ≠ 0 → posN ord u.name < posN ord u.be[i] := fun h0 => by
                        have := ord_before HE.out Hmem.out (List.getElem_mem hil) (by rw [HORD.out]; exact h0)
                        rwa [HORD.out] at this
                      have hiz : (i : Int) < (u.be.length : Int) := by omega
                      clear hc9 e10
                      generalize posN ord u.be[i] = px at *
                      generalize posN ord u.name = pn at *
                      generalize toB u.be[i] = xb at *
                      generalize toB u.name = nb9 at *
                      by_cases hp0 : px = 0
                      · subst hp0
                        clear hlt9
                        go_wp2_with fail
                        go_roundw
                        case rel => exact ⟨i + 1, by omega, by go_num, trivial⟩
                        case measure => simp [intOf]; omega
                      · have h1 := hlt9 hp0
                        have hp1 : ((px : Int) == 0) = false := beq_eq_false_iff_ne.2 (by omega)
                        have hp2 : ((pn : Nat) : Int) < ((px : Nat) : Int) := by omega
                        clear hlt9 h1 hp0
                        go_wp2_with fail
                        go_roundw
                        case rel => exact ⟨_, _, .int .i64 ((i : Int) + 1), ⟨i + 1, by omega, by go_num⟩, rfl, rfl, rfl⟩
                        case measure => simp [intOf]; omega
                    · have hiz : (u.be.length : Int) ≤ (i : Int) := by omega
                      go_wp2_with fail
                      go_roundw
                      case rel => exact ⟨k + 1, by omega, by go_num, HO9.out⟩
                      case measure => simp [intOf]; omega
            · obtain rfl : k = us.length := by omega
              have HBx := Lib.hid (HB3.out.trans (hO.below.mono HB3.out.size))
              clear hO
              go_wp2_with fail
              go_ret
              exact ⟨rfl, HBx.out⟩
    · have kn := new_any hU2 (by omega) hnm hbn
      clear hbn hnm hl20
      have HBD := Lib.hid hE
      have kn2 : Calls Try.prog 11 #[.slice av us.length cv] w2 fun e w' => ∃ x nb, e = .returned (.tuple #[.pointer none, .int .i64 x, .string nb]) ∧ x ≠ 0 ∧ Below w2.heap.size w2 w' := kn.mono fun e w' hp => by
        obtain ⟨gv, n, rfl, hb, hbad, _⟩ := hp
        exact ⟨_, _, by rw [hbad HBD.out], HBD.out, hb⟩
      clear kn hE
      go_wp2_with (go_at_call 11; refine kn2.mono ?_; rintro e w3 ⟨x, nb, rfl, hx, hb3⟩; have HB3 := Lib.hid (HB2.out.trans (hb3.mono HB2.out.size)); clear hb3; have hx2 : (x == 0) = false := beq_eq_false_iff_ne.2 hx; clear hx)
      go_ret
      exact ⟨rfl, HB3.out⟩
end Go.Proofs.Ytnpadnghocofdaa
