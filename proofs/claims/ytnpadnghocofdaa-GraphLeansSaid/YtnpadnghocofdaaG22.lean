/- The law GraphLeans returns true, and turns nothing that was there. -/
import Derived.Test.YtnpadnghocofdaaG21
namespace Go.Proofs.Ytnpadnghocofdaa
open Go.RowKit
open Go.ChangeMaps (setBlock)
set_option linter.unusedVariables false
set_option linter.unusedSimpArgs false
set_option maxRecDepth 100000

set_option maxHeartbeats 16000000 in
theorem leans_law (w : World) (v sv : Value) (us : List GU) (som : List Nm) (h : UArg w v us) (hlen : us.length ≤ maxLen) (hsv : Sts w sv som) (hnl : sv = .slice none 0 0 ∨ ∃ a n c, sv = .slice (some a) n c) :
    Calls Try.prog 4 #[v, sv] w fun e w' => e = .returned (.bool true) ∧ Below w.heap.size w w' := by
  obtain ⟨i0, hi, hz0, hz1, hz2⟩ := infoS_ex
  obtain ⟨av, cv, hv⟩ : ∃ a c, v = .slice a us.length c := by obtain ⟨a, c, _, e, _⟩ := h; exact ⟨a, c, e⟩
  have H := Lib.hid h
  have HSv := Lib.hid hsv
  have HNl := Lib.hid hnl
  have ka := alive14_any w
  have KS := Lib.hid (fun w1 (hb : Below w.heap.size w w1) => small_any (h.later hb) hlen)
  obtain ⟨sa, sc, hsa, hsq, hsm, hsp⟩ := id hsv
  have hsml : (som.length : Int) ≤ 9223372036854775807 := by unfold maxLen at hsm; omega
  subst hv hsa
  have hn : (us.length : Int) ≤ 9223372036854775807 := by unfold maxLen at hlen; omega
  clear h hlen hsv hnl hsm hsq hsp
  go_enter Try.func4, Try.ntmps4
  go_upto_region 3 with (go_at_call 9; refine ka.mono ?_; rintro e w1 ⟨rfl, hb1⟩; have HB1 := Lib.hid hb1; clear hb1)
  have ks := KS.out w1 HB1.out
  clear KS ka
  go_upto_region 5 with (go_at_call 10; refine ks.mono ?_; rintro e w2 ⟨hb2, hsm⟩; obtain ⟨r, rfl, hrr⟩ : ∃ r : Int, e = .returned (.int .i64 r) ∧ (r = 0 ∨ r = 1 ∧ SmallU us) := (by rcases hsm with rfl | ⟨rfl, h⟩; exact ⟨0, rfl, .inl rfl⟩; exact ⟨1, rfl, .inr ⟨rfl, h⟩⟩); have HB2 := Lib.hid (HB1.out.trans (hb2.mono HB1.out.size)); have HR := Lib.hid hrr; clear hb2 hsm hrr)
  · go_ret
    exact ⟨rfl, HB2.out⟩
  · go_ret
    exact ⟨rfl, HB2.out⟩
  · have hr0 : ¬ r = 0 := by assumption
    have hs20 : (r == 0) = false ∧ (som.length : Int) ≤ 20 := by assumption
    have hS : SmallU us := HR.out.elim (fun h => absurd h hr0) (fun h => h.2)
    have HS := Lib.hid hS
    have hU2 := H.out.later HB2.out
    have hl20 : us.length ≤ 20 := hS.1
    have hn20 : (us.length : Int) ≤ 20 := by omega
    have hsl : (som.length : Int) ≤ 20 := hs20.2
    have hbn := hS.bnd
    have hnm : ∀ n ∈ namesU us, n.length ≤ 1000000 := fun n hn => by have := hS.names n hn; omega
    clear hS ks HR hn hr0 hs20
    by_cases hE : errU us = 0
    · have kn := new_ok hU2 (by omega) hnm hbn hE
      have HE := Lib.hid hE
      have HD := Lib.hid (errU_ok hE).2.1
      clear hE hU2 hbn hnm hl20
      go_upto_region 8 with (go_at_call 11; refine kn.mono ?_; rintro e w3 ⟨g, nb, rfl, hG, hb3⟩; have HG := Lib.hid hG; have HB3 := Lib.hid (HB2.out.trans (hb3.mono HB2.out.size)); clear hG hb3)
      have HSm := Lib.hid (HSv.out.later HB3.out)
      go_upto_region 9 with (first
        | (go_at_call 15; refine ((HG.out.later HB4.out).pull (HSm.out.later HB4.out)).mono ?_; rintro e w5 ⟨vP, pl, rfl, hO5, hJ5⟩; have HVP0 := Lib.hid hO5.sts; have HJP := Lib.hid hJ5; have HB5 := Lib.hid (HB4.out.trans (hO5.below.mono HB4.out.size)); have HVL0 := Lib.hid (HVL4.out.later hO5.below); clear hO5 hJ5)
        | (go_at_call 14; refine (HG.out.lean HSm.out).mono ?_; rintro e w4 ⟨vL, ll, rfl, hO4, hJ4⟩; have HVL4 := Lib.hid hO4.sts; have HJL := Lib.hid hJ4; have HB4 := Lib.hid hO4.below; clear hO4 hJ4))
      have hO5 : Own w3 w5 [] := Own.of_below HB5.out
      have HU5 := Lib.hid (H.out.later HB3.out)
      have HO5 := Lib.hid hO5
      clear hO5 kn
      go_wp2_with fail
      go_loopw [44] (fun s wr => ∃ (k : Nat), k ≤ us.length ∧ s = .int .i64 k ∧ Own w5 wr []) (fun s _ => us.length - (intOf s).toNat)
      case atStart => exact ⟨0, Nat.zero_le _, rfl, Own.start w5⟩
      case round =>
        obtain ⟨k, hk, rfl, hO⟩ := hrel
        have hBk : Below w3.heap.size w3 wr := HB5.out.trans (hO.below.mono HB5.out.size)
        by_cases hlt : k < us.length
        · obtain ⟨a9, c9, xs, e9, hUn, hR⟩ := HU5.out
          injection e9 with e9 _ e11
          subst e9 e11
          have hkx : k < xs.length := by rw [hUn.len]; exact hlt
          obtain ⟨⟨b, o, rfl, hrg⟩, hnil⟩ := hR k hkx
          have hrg2 : wr.rangeAt b (o + k * 8) xs[k].cells := fun j u hj => by
            have h2 := hrg j u hj
            exact (hBk.cell (p := ⟨b, o + k * 8 + j, none⟩) (World.block_lt_of_cell? w3 ⟨b, o + k * 8 + j, none⟩ h2)).trans h2
          have hUk := (hUn.at k hkx hlt).later hBk
          have HUk := Lib.hid hUk
          have HUW := Lib.hid ((hUn.at k hkx hlt).later HB5.out)
          have Hone := Lib.hid hUk.one
          have hcsp : (Try.prog.info? 34).map (·.size) = some xs[k].cells.length := info_uv
          have h8 := Lib.hid (show (8 : Nat) = xs[k].cells.length from rfl)
          have D := Lib.hid (show xs[k].cells = [.string (toB xs[k].name), xs[k].v1, xs[k].v2, xs[k].v3, xs[k].v4, xs[k].v5, xs[k].v6, .int .i64 xs[k].ret] from rfl)
          have HOk := Lib.hid hO
          have hklt : (k : Int) < (us.length : Int) := by omega
          have Hmem := Lib.hid (show us[k] ∈ us from List.getElem_mem hlt)
          clear hrg hUk hBk hO hR hUn
          generalize xs[k] = X at *
          generalize us[k] = u at *
          generalize X.cells = pcs at *
          go_upto_region 12 with (first
            | (refine wpList_load_mid rfl 34 (.tmp 46) rfl b (o + k * 8) rfl pcs _ hrg2 Try.underlying34 rfl hcsp ?_)
            | (refine wpList_store_new rfl 34 (.tmp 11) (.tmp 47) rfl HOk.out pcs wr.heap.size rfl rfl rfl h8.out hcsp Hone.out ?_))
          intro w6 hO4 _
          have q : ∀ j, j < 8 → w6.cell? ⟨wr.heap.size, j, none⟩ = pcs[j]? := fun j hj => hO4.cell j (by rw [← h8.out]; omega)
          have d0 := q 0 (by decide)
          have d4 := q 4 (by decide)
          have d6 := q 6 (by decide)
          rw [D.out] at d0 d4 d6
          simp only [List.getElem?_cons_zero, List.getElem?_cons_succ] at d0 d4 d6
          rw [HUk.out.name] at d0
          obtain ⟨a4, c4, e4, _⟩ := id HUk.out.s4
          obtain ⟨a6, c6, e6, _⟩ := id HUk.out.s6
          rw [e4] at d4
          rw [e6] at d6
          have hf2 : (u.re.length : Int) ≤ 10 ∧ (u.pa.length : Int) ≤ 10 := by
            have h1 := (HS.out.2 u Hmem.out u.re (by simp [GU.lists])).1
            have h2 := (HS.out.2 u Hmem.out u.pa (by simp [GU.lists])).1
            omega
          generalize wr.heap.size = b11 at *
          have HC := Lib.hid (fun W L (hO : Own w5 W L) (hm : (⟨34, pcs.length, .slice (some ⟨b11, 0, none⟩) 1 1, 1, pcs⟩ : Rw) ∈ L) => (show W.cell? ⟨b11, 4, none⟩ = some (.slice a4 u.re.length c4) ∧ W.cell? ⟨b11, 6, none⟩ = some (.slice a6 u.pa.length c6) from by
            have p8 := h8.out
            exact ⟨(hO.cellMem hm 4 (by omega)).trans ((hO4.cell 4 (by omega)).symm.trans d4), (hO.cellMem hm 6 (by omega)).trans ((hO4.cell 6 (by omega)).symm.trans d6)⟩))
          have HC0 := Lib.hid (fun W L (hO : Own w5 W L) (hm : (⟨34, pcs.length, .slice (some ⟨b11, 0, none⟩) 1 1, 1, pcs⟩ : Rw) ∈ L) => (show W.cell? ⟨b11, 0, none⟩ = some (.string (toB u.name)) ∧ W.cell? ⟨b11, 4, none⟩ = some (.slice a4 u.re.length c4) from by
            have p8 := h8.out
            exact ⟨(hO.cellMem hm 0 (by omega)).trans ((hO4.cell 0 (by omega)).symm.trans d0), (hO.cellMem hm 4 (by omega)).trans ((hO4.cell 4 (by omega)).symm.trans d4)⟩))
          have HS2 := Lib.hid (fun W (hb : Below w5.heap.size w5 W) => (show Sts W (.slice a4 u.re.length c4) u.re ∧ Sts W (.slice a6 u.pa.length c6) u.pa from by
            have hh := HUW.out.later hb
            exact ⟨e4 ▸ hh.s4, e6 ▸ hh.s6⟩))
          have HSrc := Lib.hid (fun W (hb : Below w5.heap.size w5 W) => (show Src W (.slice a4 u.re.length c4) u.re.length (strs u.re) ∧ Src W (.slice a6 u.pa.length c6) u.pa.length (strs u.pa) from by
            obtain ⟨h1, h3⟩ := HS2.out W hb
            exact ⟨sts_src h1 (e4 ▸ hnil _ (by simp)), sts_src h3 (e6 ▸ hnil _ (by simp))⟩))
          have HZ := Lib.hid (hO4.made 9 1 #[] 0 rfl (Nat.zero_le _))
          have HZd := Lib.hid (hO4.drew.made 9 1 #[] 0 rfl (Nat.zero_le _))
          have hS4 := HC.out w6 _ hO4 (List.mem_cons_self ..)
          have hS4d := HC.out w6.drew _ hO4.drew (List.mem_cons_self ..)
          have HSZ := Lib.hid (HC.out _ _ HZ.out (List.mem_cons_of_mem _ (List.mem_cons_self ..)))
          have HSZd := Lib.hid (HC.out _ _ HZd.out (List.mem_cons_of_mem _ (List.mem_cons_self ..)))
          have Hb1 := Lib.hid (show 0 + u.re.length ≤ maxLen from by unfold maxLen; omega)
          have Hb2 := Lib.hid (show (0 + u.re.length) * 16 ≤ 140737488355328 from by omega)
          have Hb3 := Lib.hid (show 0 + u.re.length + u.pa.length ≤ maxLen from by unfold maxLen; omega)
          have Hb4 := Lib.hid (show (0 + u.re.length + u.pa.length) * 16 ≤ 140737488355328 from by omega)
          have kh := has14_any (.slice sa som.length sc) som u.name w6 (HSm.out.later (HB5.out.trans (hO4.below.mono HB5.out.size)))
          clear q d4 d6 e4 e6 hnil D hO4
          have HOn := Lib.hid (lean_on HD.out HJL.out Hmem.out)
          generalize decide (u.name ∈ som) = bon at *
          generalize hub : toB u.name = ub at *
          have HUB := Lib.hid hub
          clear hub
          go_wp2_with (go_at_call 16; refine kh.mono ?_; rintro e w9 ⟨rfl, rfl⟩)
          clear d0
          go_region_held3 (fun W : World => W.cell? ⟨b11, 4, none⟩ = some (.slice a4 u.re.length c4) ∧ W.cell? ⟨b11, 6, none⟩ = some (.slice a6 u.pa.length c6)) (first | exact hS4 | exact hS4d | exact HSZ.out | exact HSZd.out | exact hS6 | exact hS6d | exact hS7 | exact hS7d) (first
            | (have _g := HA1.out; clear _g; refine step_append_src (by rfl) (.tmp 55) (.tmp 57) 30 (by rfl) v6 (0 + u.re.length) ([] ++ strs u.re) (.slice a6 u.pa.length c6) u.pa.length (strs u.pa) (by rfl) (by rfl) (by first | exact HA1.out | exact HA1.out.drew) i0 (.string ⟨#[]⟩) 16 Try.underlying30 hi hz0 hz1 hz2 rfl (by decide) (by first | exact (HSrc.out _ HA1.out.below).2 | exact (HSrc.out _ HA1.out.drew.below).2) (by simp) Hb3.out Hb4.out ?_; intro v7 w7 hO7; have HA2 := Lib.hid hO7; have hS7 := HC.out w7 _ hO7 (List.mem_cons_of_mem _ (List.mem_cons_self ..)); have hS7d := HC.out w7.drew _ hO7.drew (List.mem_cons_of_mem _ (List.mem_cons_self ..)); obtain ⟨a7, c7, hv7, _, _⟩ := hO7.sized; subst hv7; clear hO7)
            | (refine step_append_src (by rfl) (.tmp 52) (.tmp 54) 30 (by rfl) (.slice (some ⟨w6.heap.size, 0, none⟩) 0 0) 0 [] (.slice a4 u.re.length c4) u.re.length (strs u.re) (by rfl) (by rfl) (by first | exact HZ.out | exact HZ.out.drew | exact HZd.out | exact HZd.out.drew) i0 (.string ⟨#[]⟩) 16 Try.underlying30 hi hz0 hz1 hz2 rfl (by decide) (by first | exact (HSrc.out _ HZ.out.below).1 | exact (HSrc.out _ HZ.out.drew.below).1 | exact (HSrc.out _ HZd.out.below).1 | exact (HSrc.out _ HZd.out.drew.below).1) (by simp) Hb1.out Hb2.out ?_; intro v6 w61 hO6; have HA1 := Lib.hid hO6; have hS6 := HC.out w61 _ hO6 (List.mem_cons_of_mem _ (List.mem_cons_self ..)); have hS6d := HC.out w61.drew _ hO6.drew (List.mem_cons_of_mem _ (List.mem_cons_self ..)); clear hO6))
          go_wp2_with fail
          have hrow : Own w5 w7 (rowSs (.slice a7 (0 + u.re.length + u.pa.length) c7) (u.re ++ u.pa) :: [⟨34, pcs.length, .slice (some ⟨b11, 0, none⟩) 1 1, 1, pcs⟩]) := by
            have := HA2.out
            show Own _ w7 (⟨9, 1, _, (u.re ++ u.pa).length, strs (u.re ++ u.pa)⟩ :: _)
            rw [List.length_append, show strs (u.re ++ u.pa) = [] ++ strs u.re ++ strs u.pa from by simp [strs]]
            rw [show 0 + u.re.length + u.pa.length = u.re.length + u.pa.length from by omega] at this ⊢
            exact this
          obtain ⟨N, hN⟩ : ∃ N, 0 + u.re.length + u.pa.length = N := ⟨_, rfl⟩
          have hNl : (u.re ++ u.pa).length = N := by rw [List.length_append]; omega
          have hN20 : (N : Int) ≤ 20 := by omega
          rw [hN] at hrow
          have HRW := Lib.hid hrow
          have HNL := Lib.hid hNl
          have HNN := Lib.hid hN
          obtain ⟨q0, q4⟩ := HC0.out w7 _ hrow (List.mem_cons_of_mem _ (List.mem_cons_self ..))
          have hb57 : Below w5.heap.size w5 w7 := hrow.below
          have HVL := Lib.hid (HVL0.out.later hb57)
          have HVP := Lib.hid (HVP0.out.later hb57)
          have HQ4 := Lib.hid q4
          have HO9 := Lib.hid (show Own w5 w7 [] from hrow.tail.tail)
          have HSR := Lib.hid (HS2.out w7 hb57).1
          clear hrow hNl hS4 hS4d hS6 hS6d hS7 hS7d HA1 HA2 q4 hf2 hb57
          rw [hN]
          clear hN
          go_loopw [12, 60] (fun s12 s wq => ∃ j : Nat, j ≤ N ∧ s = .int .i64 j ∧ s12 = .bool (bon || ((u.re ++ u.pa).take j).any fun x => decide (x ∈ ll)) ∧ w7 = wq) (fun _ s _ => N - (intOf s).toNat)
          case atStart => exact ⟨0, Nat.zero_le _, rfl, by simp, rfl⟩
          case round =>
            obtain ⟨j, hj, rfl, rfl, rfl⟩ := hrel
            by_cases hjl : j < N
            · have hjx : j < (u.re ++ u.pa).length := by rw [HNL.out]; exact hjl
              obtain ⟨g7, hg7⟩ : ∃ g7, a7 = some ⟨g7, 0, none⟩ := by
                obtain ⟨g7, cap, e, _⟩ := HRW.out.form (by omega)
                injection e with e _ _
                exact ⟨g7, e⟩
              subst hg7
              have cx : w7.cell? ⟨g7, j, none⟩ = some (.string (toB (u.re ++ u.pa)[j])) := by
                have h5 := HRW.out
                rw [← HNL.out] at h5
                exact Own.str h5 j hjx
              have hjz : (j : Int) < (u.re.length : Int) + (u.pa.length : Int) := by have := HNN.out; omega
              have kx := has14_any vL ll (u.re ++ u.pa)[j] w7 HVL.out
              have HT := Lib.hid (show (bon || ((u.re ++ u.pa).take (j + 1)).any fun x => decide (x ∈ ll)) = ((bon || ((u.re ++ u.pa).take j).any fun x => decide (x ∈ ll)) || decide ((u.re ++ u.pa)[j] ∈ ll)) from by
                rw [List.take_succ_eq_append_getElem hjx, List.any_append, Bool.or_assoc]
                simp)
              generalize decide ((u.re ++ u.pa)[j] ∈ ll) = bx at *
              generalize toB (u.re ++ u.pa)[j] = xb at *
              clear hjx
              cases hacc : (bon || ((u.re ++ u.pa).take j).any fun x => decide (x ∈ ll)) with
              | true =>
                rw [hacc] at HT
                have HACC := Lib.hid hacc
                clear hacc kx
                go_wp2_with fail
                go_roundw
                case rel => exact ⟨j + 1, by omega, by go_num, by rw [HT.out]; rfl, trivial⟩
                case measure => simp [intOf]; omega
              | false =>
                rw [hacc] at HT
                have HACC := Lib.hid hacc
                clear hacc
                go_wp2_with (go_at_call 16; refine kx.mono ?_; rintro e w9 ⟨rfl, rfl⟩)
                go_roundw
                case rel => exact ⟨j + 1, by omega, by go_num, by rw [HT.out]; rfl, trivial⟩
                case measure => simp [intOf]; omega
            · have hjz : (u.re.length : Int) + (u.pa.length : Int) ≤ (j : Int) := by have := HNN.out; omega
              have hje : (bon || ((u.re ++ u.pa).take j).any fun x => decide (x ∈ ll)) = decide (u.name ∈ ll) := by
                rw [List.take_of_length_le (by rw [HNL.out]; omega)]
                exact HOn.out
              rw [hje]
              have kx := has14_any vL ll u.name w7 HVL.out
              rw [HUB.out] at kx
              have hq4 := HQ4.out
              obtain ⟨_, _, e9, _, _, h49⟩ := id HSR.out
              have hre : (u.re.length : Int) ≤ 10 := by
                have h1 := (HS.out.2 u Hmem.out u.re (by simp [GU.lists])).1
                omega
              have H49 := Lib.hid h49
              have E9 := Lib.hid e9
              have kp := has14_any vP pl u.name w7 HVP.out
              rw [HUB.out] at kp
              have HPl := Lib.hid (fun (hp : decide (u.name ∈ pl) = true) x (hx : x ∈ u.re) => (show decide (x ∈ pl) = true from decide_eq_true ((HJP.out.mem x).2 (.step Hmem.out hx ((HJP.out.mem _).1 (of_decide_eq_true hp))))))
              clear h49 e9 hje hjl
              have kx2 : ∀ b : Bool, ((b != b) = false) := fun b => by cases b <;> rfl
              generalize decide (u.name ∈ ll) = bl at *
              generalize decide (u.name ∈ pl) = bp at *
              go_upto_region 20 with (go_at_call 16; refine kx.mono ?_; rintro e w9 ⟨rfl, rfl⟩)
              clear kx kx2
              go_wp2_with fail
              go_loopw [80] (fun s wq => ∃ i : Nat, i ≤ u.re.length ∧ s = .int .i64 i ∧ w7 = wq) (fun s _ => u.re.length - (intOf s).toNat)
              case atStart => exact ⟨0, Nat.zero_le _, rfl, rfl⟩
              case round =>
                obtain ⟨i, hii, rfl, rfl⟩ := hrel
                by_cases hil : i < u.re.length
                · obtain ⟨b9, o9, hf9, _, hc9⟩ := H49.out (by omega)
                  have e10 := (Value.slice.inj E9.out).1
                  rw [← e10] at hf9
                  subst hf9
                  have cx := hc9 i hil
                  have hiz : (i : Int) < (u.re.length : Int) := by omega
                  have kx := has14_any vP pl u.re[i] w7 HVP.out
                  have hpx := fun hp => HPl.out hp u.re[i] (List.getElem_mem hil)
                  clear hc9 e10
                  generalize decide (u.re[i] ∈ pl) = bx at *
                  generalize toB u.re[i] = xb at *
                  cases bp with
                  | false =>
                    clear hpx kx
                    go_wp2_with (go_at_call 16; refine kp.mono ?_; rintro e w9 ⟨rfl, rfl⟩)
                    go_roundw
                    case rel => first | exact ⟨i + 1, by omega, by go_num, trivial⟩ | exact ⟨i + 1, by omega, by go_num⟩ | exact ⟨_, .int .i64 ((i : Int) + 1), ⟨i + 1, by omega, by go_num⟩, rfl, rfl⟩ | exact ⟨.int .i64 ((i : Int) + 1), ⟨i + 1, by omega, by go_num⟩, rfl⟩
                    case measure => simp [intOf]; omega
                  | true =>
                    have hbx := hpx rfl
                    subst hbx
                    clear hpx
                    go_wp2_with (first
                      | (go_at_call 16; have _g := SA.out; clear _g; refine kx.mono ?_; rintro e w9 ⟨rfl, rfl⟩)
                      | (go_at_call 16; refine kp.mono ?_; rintro e w9 ⟨rfl, rfl⟩; have SA := Lib.hid (show 0 = 0 from rfl)))
                    go_roundw
                    case rel => first | exact ⟨i + 1, by omega, by go_num, trivial⟩ | exact ⟨i + 1, by omega, by go_num⟩ | exact ⟨_, .int .i64 ((i : Int) + 1), ⟨i + 1, by omega, by go_num⟩, rfl, rfl⟩ | exact ⟨.int .i64 ((i : Int) + 1), ⟨i + 1, by omega, by go_num⟩, rfl⟩
                    case measure => simp [intOf]; omega
                · have hiz : (u.re.length : Int) ≤ (i : Int) := by omega
                  go_wp2_with fail
                  go_roundw
                  case rel => exact ⟨k + 1, by omega, by go_num, HO9.out⟩
                  case measure => simp [intOf]; omega
        · obtain rfl : k = us.length := by omega
          have hW := hO
          have HZ := Lib.hid (hO.made 9 1 #[] 0 rfl (Nat.zero_le _))
          have HSs := Lib.hid (fun W (hb : Below w5.heap.size w5 W) => sts_src ((HSm.out.later HB5.out).later hb) HNl.out)
          have Hb1 := Lib.hid (show 0 + som.length ≤ maxLen from by unfold maxLen; omega)
          have Hb2 := Lib.hid (show (0 + som.length) * 16 ≤ 140737488355328 from by omega)
          have Hb3 := Lib.hid (show 0 + som.length + som.length ≤ maxLen from by unfold maxLen; omega)
          have Hb4 := Lib.hid (show (0 + som.length + som.length) * 16 ≤ 140737488355328 from by omega)
          clear hO hW hBk
          go_upto_region 28 with (first
            | (at_builtin; have _g := HA1.out; clear _g; refine wpList_append_src rfl (.tmp 98) (.tmp 99) 30 rfl v6 (0 + som.length) ([] ++ strs som) (.slice sa som.length sc) som.length (strs som) rfl rfl HA1.out i0 (.string ⟨#[]⟩) 16 Try.underlying30 hi hz0 hz1 hz2 rfl (by decide) (HSs.out _ HA1.out.below) (by simp) Hb3.out Hb4.out ?_; intro v7 W9 hO7; have HA2 := Lib.hid hO7; obtain ⟨a7, c7, hv7, _, _⟩ := hO7.sized; subst hv7; clear hO7)
            | (at_builtin; refine wpList_append_src rfl (.tmp 96) (.tmp 97) 30 rfl (.slice (some ⟨wr.heap.size, 0, none⟩) 0 0) 0 [] (.slice sa som.length sc) som.length (strs som) rfl rfl HZ.out i0 (.string ⟨#[]⟩) 16 Try.underlying30 hi hz0 hz1 hz2 rfl (by decide) (HSs.out _ HZ.out.below) (by simp) Hb1.out Hb2.out ?_; intro v6 w61 hO6; have HA1 := Lib.hid hO6; clear hO6))
          have HTW : Hid (Sts W9 (.slice a7 (som.length + som.length) c7) (som ++ som)) := by
            show Sts W9 (.slice a7 (som.length + som.length) c7) (som ++ som)
            rw [show som.length + som.length = 0 + som.length + som.length from by omega]
            have h9 : Own w5 W9 [rowSs (.slice a7 (0 + som.length + som.length) c7) (som ++ som)] := by
              have := HA2.out
              show Own _ W9 [⟨9, 1, _, (som ++ som).length, strs (som ++ som)⟩]
              rw [List.length_append, show strs (som ++ som) = [] ++ strs som ++ strs som from by simp [strs]]
              rw [show 0 + som.length + som.length = som.length + som.length from by omega] at this ⊢
              exact this
            exact h9.sts
          obtain ⟨N2, hN2⟩ : ∃ N2, som.length + som.length = N2 := ⟨_, rfl⟩
          have hb59 : Below w5.heap.size w5 W9 := HA2.out.below
          clear HA2 HA1
          rw [hN2] at HTW ⊢
          clear hN2
          have HB39 := Lib.hid (HB5.out.trans (hb59.mono HB5.out.size))
          have HG9 := Lib.hid (HG.out.later HB39.out)
          have HSOM := Lib.hid (HSm.out.later HB39.out)
          have HVL := Lib.hid (HVL0.out.later hb59)
          have HVP := Lib.hid (HVP0.out.later hb59)
          have HB9 := Lib.hid (Below.refl W9.heap.size W9)
          have HPT := Lib.hid (pick_twice (ordU us) som)
          obtain ⟨la, lc, hvl, _⟩ := id HVL.out
          obtain ⟨pa, pc, hvp, _⟩ := id HVP.out
          subst hvl hvp
          clear hb59
          go_wp2_with (first
            | (go_at_call 17; have _g := HV15.out; clear _g; refine (same14_eq _ _ _ w15 (HV14.out.later HB1415.out) HV15.out).mono ?_; rintro e w9 ⟨rfl, rfl⟩; have S11 := Lib.hid (show 0 = 0 from rfl))
            | (go_at_call 12; have _g := HV14.out; clear _g; refine ((HG9.out.later HB14.out).order_of (HSOM.out.later HB14.out)).mono ?_; rintro e w15 ⟨v15, rfl, hs15, hb15⟩; have HV15 := Lib.hid hs15; have HB15 := Lib.hid (HB14.out.trans (hb15.mono HB14.out.size)); have HB1415 := Lib.hid hb15; clear hs15 hb15)
            | (go_at_call 12; have _g := S8.out; clear _g; refine ((HG9.out.later HB13.out).order_of (HTW.out.later HB13.out)).mono ?_; rintro e w14 ⟨v14, rfl, hs14, hb14⟩; rw [HPT.out] at hs14; have HV14 := Lib.hid hs14; have HB14 := Lib.hid (HB13.out.trans (hb14.mono HB13.out.size)); clear hs14 hb14)
            | (go_at_call 17; have _g := HV13.out; clear _g; refine (same14_eq _ _ _ w13 HV13.out (HVP.out.later HB13.out)).mono ?_; rintro e w9 ⟨rfl, rfl⟩; have S8 := Lib.hid (show 0 = 0 from rfl))
            | (go_at_call 15; have _g := S6.out; clear _g; refine ((HG9.out.later HB12.out).pull_of (HVP.out.later HB12.out) HJP.out (fun n hin hn => .base hin ((HJP.out.mem n).2 (.base hin hn))) (fun n _ hn => (HJP.out.mem n).1 hn)).mono ?_; rintro e w13 ⟨v13, rfl, hs13, hb13⟩; have HV13 := Lib.hid hs13; have HB13 := Lib.hid (HB12.out.trans (hb13.mono HB12.out.size)); clear hs13 hb13)
            | (go_at_call 17; have _g := HV12.out; clear _g; refine (same14_eq _ _ _ w12 HV12.out (HVL.out.later HB12.out)).mono ?_; rintro e w9 ⟨rfl, rfl⟩; have S6 := Lib.hid (show 0 = 0 from rfl))
            | (go_at_call 14; have _g := S4.out; clear _g; refine ((HG9.out.later HB11.out).lean_of (HVL.out.later HB11.out) HJL.out (fun n hin hn => .base hin ((HJL.out.mem n).2 (.base hin hn))) (fun n _ hn => (HJL.out.mem n).1 hn)).mono ?_; rintro e w12 ⟨v12, rfl, hs12, hb12⟩; have HV12 := Lib.hid hs12; have HB12 := Lib.hid (HB11.out.trans (hb12.mono HB11.out.size)); clear hs12 hb12)
            | (go_at_call 17; have _g := HV11.out; clear _g; refine (same14_eq _ _ _ w11 HV11.out (HVP.out.later HB11.out)).mono ?_; rintro e w9 ⟨rfl, rfl⟩; have S4 := Lib.hid (show 0 = 0 from rfl))
            | (go_at_call 15; have _g := S2.out; clear _g; refine ((HG9.out.later HB10.out).pull_of (HTW.out.later HB10.out) HJP.out (fun n hin hn => .base hin (List.mem_append_left _ hn)) (fun n hin hn => .base hin ((List.mem_append.1 hn).elim id id))).mono ?_; rintro e w11 ⟨v11, rfl, hs11, hb11⟩; have HV11 := Lib.hid hs11; have HB11 := Lib.hid (HB10.out.trans (hb11.mono HB10.out.size)); clear hs11 hb11)
            | (go_at_call 17; have _g := HV10.out; clear _g; refine (same14_eq _ _ _ w10 HV10.out (HVL.out.later HB10.out)).mono ?_; rintro e w9 ⟨rfl, rfl⟩; have S2 := Lib.hid (show 0 = 0 from rfl))
            | (go_at_call 14; refine (HG9.out.lean_of HTW.out HJL.out (fun n hin hn => .base hin (List.mem_append_left _ hn)) (fun n hin hn => .base hin ((List.mem_append.1 hn).elim id id))).mono ?_; rintro e w10 ⟨v10, rfl, hs10, hb10⟩; have HV10 := Lib.hid hs10; have HB10 := Lib.hid (HB9.out.trans (hb10.mono HB9.out.size)); clear hs10 hb10))
          go_ret
          exact ⟨rfl, HB3.out.trans ((HB39.out.trans (HB15.out.mono HB39.out.size)).mono HB3.out.size)⟩
    · have kn := new_any hU2 (by omega) hnm hbn
      clear hbn hnm hl20
      have HBD := Lib.hid hE
      have kn2 : Calls Try.prog 11 #[.slice av us.length cv] w2 fun e w' => ∃ x nb, e = .returned (.tuple #[.pointer none, .int .i64 x, .string nb]) ∧ x ≠ 0 ∧ Below w2.heap.size w2 w' := kn.mono fun e w' hp => by
        obtain ⟨gv, n, rfl, hb, hbad, _⟩ := hp
        exact ⟨_, _, by rw [hbad HBD.out], HBD.out, hb⟩
      clear kn hE
      go_wp2_with (go_at_call 11; refine kn2.mono ?_; rintro e w3 ⟨x, nb, rfl, hx, hb3⟩; have HB3 := Lib.hid (HB2.out.trans (hb3.mono HB2.out.size)); clear hb3; have hx2 : (x == 0) = false := beq_eq_false_iff_ne.2 hx; clear hx)
      go_ret
      exact ⟨rfl, HB3.out⟩
end Go.Proofs.Ytnpadnghocofdaa
