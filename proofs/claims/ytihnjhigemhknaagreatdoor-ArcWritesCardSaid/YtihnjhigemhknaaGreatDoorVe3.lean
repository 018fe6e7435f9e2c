/- 'parse' of package ver: its walk. -/
import Derived.Test.YtihnjhigemhknaaGreatDoorVe2
namespace Go.Proofs.YtihnjhigemhknaaGreatDoor
open Go.RowKit
set_option linter.unusedVariables false
set_option linter.unusedSimpArgs false
set_option maxRecDepth 100000

theorem rightV_yes {l : List UInt8} {r : Nat} (h1 : dashL l = true ∧ numL (restL l) = true ∧ valN (restL l) ≠ 0 ∧ r = valN (restL l) ∨ dashL l = false ∧ r = 0) (h2 : (cutP (frontL l)).all numL = true) : numsV l = (cutP (frontL l)).map valN ∧ revV l = r := by
  rw [cutP_all] at h2
  have h3 : rightV l = true := by
    unfold rightV
    rw [h2, Bool.and_true]
    rcases h1 with ⟨a, b, c, _⟩ | ⟨a, _⟩
    · rw [a, b, decide_eq_true c]; rfl
    · rw [a]; rfl
  have h4 : (bits 46 (frontL l)).length ≤ 4 := by
    simp only [Bool.and_eq_true, decide_eq_true_eq] at h2; exact h2.1
  unfold numsV revV
  rw [if_pos h3, if_pos h3, cutP_yes _ h4]
  refine ⟨rfl, ?_⟩
  rcases h1 with ⟨a, b, c, d⟩ | ⟨a, d⟩
  · rw [if_pos a, d]
  · rw [if_neg (by rw [a]; decide), d]
theorem rightV_no1 {l : List UInt8} (h1 : dashL l = true) (h2 : numL (restL l) = false ∨ valN (restL l) = 0) : rightV l = false := by
  unfold rightV
  rw [h1]
  rcases h2 with h | h
  · rw [h]; rfl
  · rw [decide_eq_false (by rw [h]; decide), Bool.and_false]; rfl
theorem rightV_no2 {l : List UInt8} (h : (cutP (frontL l)).all numL = false) : rightV l = false := by
  rw [cutP_all] at h
  unfold rightV
  rw [h, Bool.and_false]
set_option maxHeartbeats 4000000 in
theorem parse_any (s : ByteArray) (w : World) (hs : s.size ≤ 1000000) (hm : VMx w) : Calls Tryz.prog 46 #[.string s] w (ParsePost w s.data.toList) := by
  have e := Lib.size_eq s
  have hcl := cut_le s.data.toList
  have hcp := cutP_le (frontL s.data.toList)
  have hc4 := cutP_length (frontL s.data.toList)
  have HC := fun w1 (h1 : VMx w1) => cut_dash s w1 hs h1
  have HN1 := fun w1 => number_list (restL s.data.toList) w1 (by omega)
  have HS1 := fun w1 (h1 : VMx w1) => splitN_dot (toB (frontL s.data.toList)) w1 (by rw [toB_size]; omega) h1
  have HNP := fun p (hp : p ∈ cutP (frontL s.data.toList)) w1 => number_list p w1 (by have := hcp p hp; omega)
  have HO1 := Lib.hid (show Own w _ [rowVer w.heap.size (.slice none 0 0) 0] from (Own.start w).ver (.slice none 0 0) 0)
  have Hm := Lib.hid hm
  have Hm1 := Lib.hid (VMx.own (W0 := w) hm HO1.out)
  obtain ⟨i0, hi, hz0, hz1, hz2⟩ := int_info
  have hir : (Tryz.prog.info? 84).map (·.size) = some 2 := info_ver
  generalize hl : s.data.toList = l at *
  clear e hcl hcp hl hm
  obtain ⟨dsh, hdsh⟩ : ∃ d, dashL l = d := ⟨_, rfl⟩
  cases dsh with
  | true =>
    rw [hdsh] at HC
    by_cases hn : numL (restL l) = true
    · by_cases hv : valN (restL l) = 0
      · rw [hn, hv] at HN1
        have HP := Lib.hid (fun w' hb => parsePost_no (w := w) (w' := w') (rightV_no1 hdsh (.inr hv)) hb)

        go_enter Tryz.func46, Tryz.ntmps46
        go_wp2_with fail
        refine (HC _ Hm1.out).mono ?_
        rintro e w2 ⟨rfl, n2, hw2⟩
        have HO2 := Lib.hid (show Own w w2 [rowVer w.heap.size (.slice none 0 0) 0] by rw [hw2]; exact HO1.out.drewN)
        clear hw2 HO1 Hm1
        have HO3 := Lib.hid (HO2.out.ver (.slice none 0 0) 0)
        clear HO2

        go_wp2_with fail
        refine (HN1 _).mono ?_
        rintro e w3 ⟨rfl, hb3⟩
        have HO4 := Lib.hid (HO3.out.later hb3)
        clear hb3 HO3

        obtain ⟨q1, q2, q3, q4, q5⟩ := ver_cells HO4.out (g := w.heap.size) (v := .slice none 0 0) (r := 0) (by simp)
        go_wp2_with fail

        have HE := Lib.hid (Own.setVer1 (r' := 0) (HO4.out.swap.setVer0 (v' := .slice none 0 0)))
        obtain ⟨_, _, _, _, k5⟩ := ver_cells HE.out (g := w.heap.size) (v := .slice none 0 0) (r := 0) (by simp)
        refine bodyPost_ret (v := .agg [Value.slice none 0 0, Value.int .i64 0].toArray) (ret_cellV Tryz.results46 rfl k5 Tryz.underlying84 rfl hir) rfl ?_
        exact HP.out _ HE.out.below
      · rw [hn] at HN1
        simp only [if_true] at HN1
        have HR := Lib.hid (fun h2 => rightV_yes (l := l) (r := valN (restL l)) (.inl ⟨hdsh, hn, hv, rfl⟩) h2)
        have HP := Lib.hid (fun h w' hb => parsePost_no (w := w) (w' := w') (rightV_no2 (l := l) h) hb)
        have hv2 : ((valN (restL l) : Int) == 0) = false := beq_eq_false_iff_ne.2 (by omega)
        clear hn
        generalize valN (restL l) = rv at *
        go_enter Tryz.func46, Tryz.ntmps46
        go_wp2_with fail
        refine (HC _ Hm1.out).mono ?_
        rintro e w2 ⟨rfl, n2, hw2⟩
        have HO2 := Lib.hid (show Own w w2 [rowVer w.heap.size (.slice none 0 0) 0] by rw [hw2]; exact HO1.out.drewN)
        clear hw2 HO1 Hm1
        have HO3 := Lib.hid (HO2.out.ver (.slice none 0 0) 0)
        clear HO2
        go_wp2_with fail
        refine (HN1 _).mono ?_
        rintro e w3 ⟨rfl, hb3⟩
        have HO4 := Lib.hid (HO3.out.later hb3)
        clear hb3 HO3
        obtain ⟨q1, q2, q3, q4, q5⟩ := ver_cells HO4.out (g := w2.heap.size) (v := .slice none 0 0) (r := 0) (by simp)
        have HO5 := Lib.hid (HO4.out.setVer1 (r' := (rv : Int)))
        go_wp2_with fail
        clear q1 q2 q3 q4 q5 HO4
        refine (HS1 _ (VMx.own (W0 := w) Hm.out HO5.out)).mono ?_
        rintro e w6 ⟨n6, cs6, rfl, hn6, hO6, hcs6⟩
        have HO6 := Lib.hid (HO5.out.join hO6)
        have HCS := Lib.hid hcs6
        clear hO6 HO5 hcs6 HS1 HN1 HC
        have Hps := Lib.hid hc4
        clear hc4 hv2
        generalize cutP (frontL l) = ps at *
        generalize (w3.setCell ⟨w2.heap.size, 1, none⟩ (.int .i64 (rv : Int))).heap.size = g at *
        go_wp2_with fail
        generalize hb1 : w2.heap.size = b1 at *
        clear hb1
        generalize hb0 : w.heap.size = b0 at HO6 ⊢
        clear hb0
        have hst : LoopV w ps b0 b1 g (rv : Int) n6 cs6 (.int .i64 0) w6 := ⟨0, .slice none 0 0, rfl, Nat.zero_le _, rfl, (HO6.out.nil 3 1).perm (List.perm_append_comm (l₁ := [_, _]) (l₂ := [_, _]))⟩
        have Hst := Lib.hid hst
        clear hst HO6
        go_loopw [37] (fun i wr => LoopV w ps b0 b1 g (rv : Int) n6 cs6 i wr) (fun i _ => ps.length - (intOf i).toNat)
        case atStart => exact Hst.out
        case round =>
          obtain ⟨k, vv, rfl, hk, hall, hOr⟩ := hrel
          clear Hst
          have Hall := Lib.hid hall
          have HOr := Lib.hid hOr
          clear hall hOr
          by_cases hlt : k < ps.length
          · have hpc : wr.cell? ⟨g, k, none⟩ = some (.string (toB ps[k])) := by
              have h1 := HOr.out.only (r := ⟨9, 1, .slice (some ⟨g, 0, none⟩) n6 n6, n6, cs6⟩) (by simp)
              rw [Own.cell (h := h1) k (by omega)]; exact HCS.out k hlt
            have hcall := HNP _ (List.getElem_mem hlt) wr
            have hnd : k < n6 := Nat.lt_of_lt_of_le hlt hn6
            clear HNP
            by_cases hg : numL ps[k] = true
            · rw [hg] at hcall
              simp only [if_true] at hcall
              have Hg := Lib.hid hg
              clear hg
              go_wp2_with fail
              refine hcall.mono ?_
              rintro e w7 ⟨rfl, hb7⟩
              have HO7 := Lib.hid (HOr.out.later hb7)
              clear hb7 HOr hpc
              obtain ⟨q1, q2, q3, q4, q5⟩ := ver_cells HO7.out (g := b1) (v := vv) (r := (rv : Int)) (by simp)
              have hcl : ((ps.take k).map valN).length = k := by rw [List.length_map, List.length_take]; omega
              obtain ⟨fa, fc, hf, _, _⟩ := Own.sized (h := (show Own w w7 (⟨3, 1, vv, ((ps.take k).map valN).length, ((ps.take k).map valN).map fun (n : Nat) => Value.int .i64 (n : Int)⟩ :: _) from HO7.out.third))
              have hO7 : Own w w7 (⟨3, 1, vv, k, ((ps.take k).map valN).map fun (n : Nat) => Value.int .i64 (n : Int)⟩ :: [rowVer b1 vv (rv : Int), rowVer b0 (.slice none 0 0) 0, ⟨9, 1, .slice (some ⟨g, 0, none⟩) n6 n6, n6, cs6⟩]) := by
                have := HO7.out.third
                unfold rowN at this
                rw [hcl] at this
                exact this
              rw [hcl] at hf
              have HO8 := Lib.hid (hO7.alloc (.cells #[.int .i64 (valN ps[k] : Int)] 3))
              have hsrc : Src (w7.alloc (.cells #[.int .i64 (valN ps[k] : Int)] 3)) (.slice (some ⟨w7.heap.size, 0, none⟩) 1 1) 1 [.int .i64 (valN ps[k] : Int)] := by
                refine .inr ⟨_, _, rfl, fun j u hj => ?_, fun u hu => by rw [List.mem_singleton.1 hu]; rfl⟩
                rw [Addr.add_mid, Nat.zero_add, World.cell?_alloc_new]
                simpa using hj
              have Hsrc := Lib.hid hsrc
              have h4 := Hps.out
              have Hb1 := Lib.hid (show k + 1 ≤ maxLen by unfold maxLen; omega)
              have Hb2 := Lib.hid (show (k + 1) * 8 ≤ 140737488355328 by omega)
              clear hsrc hcall hcl hO7 HO7 q2 q4 q5 h4
              generalize hxs : (((ps.take k).map valN).map fun (n : Nat) => Value.int .i64 (n : Int)) = xs at *
              have Hxs := Lib.hid hxs
              clear hxs
              subst hf
              go_wp2_with (at_builtin; refine wpList_append_src rfl (.tmp 50) (.tmp 52) 71 rfl (.slice fa k fc) k xs (.slice (some ⟨w7.heap.size, 0, none⟩) 1 1) 1 [.int .i64 (valN ps[k] : Int)] rfl rfl HO8.out i0 (.int .i64 0) 8 Tryz.underlying71 hi hz0 hz1 hz2 rfl (by decide) Hsrc.out rfl Hb1.out Hb2.out ?_)
              intro v9 w9 hO9
              obtain ⟨a9, c9, hv9, _, _⟩ := Own.sized (h := hO9)
              subst hv9
              obtain ⟨r1, r2, r3, r4, r5⟩ := ver_cells hO9 (g := b1) (v := .slice fa k fc) (r := (rv : Int)) (by simp)
              have HX := Lib.hid (show ∀ i, i = .int .i64 ((k + 1 : Nat) : Int) → LoopV w ps b0 b1 g (rv : Int) n6 cs6 i (w9.setCell ⟨b1, 0, none⟩ (.slice a9 (k + 1) c9)) from by
                intro i hi
                refine ⟨k + 1, .slice a9 (k + 1) c9, hi, hlt, by rw [all_take_succV _ _ _ hlt, Hall.out, Hg.out]; rfl, ?_⟩
                rw [← Hxs.out] at hO9
                have h2 := (hO9.swap.setVer0 (v' := .slice a9 (k + 1) c9)).perm (List.Perm.cons _ (List.Perm.swap _ _ _))
                unfold rowN
                rw [List.take_succ_eq_append_getElem hlt, List.map_append, List.map_append, List.length_append, List.length_map, List.length_take, Nat.min_eq_left (Nat.le_of_lt hlt)]
                exact h2)
              clear hO9 HO8 Hsrc Hb1 Hb2 r2 r4 r5 q1 q3 Hall Hg Hxs
              have h4 := Hps.out
              go_wp2_with fail
              go_roundw
              case rel => exact HX.out _ (by go_num)
              case measure => simp [intOf]; omega
            · have hg : numL ps[k] = false := by simpa using hg
              rw [hg] at hcall
              have HNO := Lib.hid (HP.out (all_at_noV numL ps k hlt hg))
              clear hg
              go_wp2_with fail
              refine hcall.mono ?_
              rintro e w7 ⟨rfl, hb7⟩
              have HO7 := Lib.hid (HOr.out.later hb7)
              clear hb7 HOr hpc hcall
              obtain ⟨q1, q2, q3, q4, q5⟩ := ver_cells HO7.out (g := b0) (v := .slice none 0 0) (r := 0) (by simp)
              go_wp2_with fail
              have HE := Lib.hid (Own.setVer1 (r' := 0) (HO7.out.swap.setVer0 (v' := .slice none 0 0)))
              obtain ⟨_, _, _, _, k5⟩ := ver_cells HE.out (g := b0) (v := .slice none 0 0) (r := 0) (by simp)
              refine bodyPost_ret (v := .agg [Value.slice none 0 0, Value.int .i64 0].toArray) (ret_cellV Tryz.results46 rfl k5 Tryz.underlying84 rfl hir) rfl ?_
              exact HNO.out _ HE.out.below
          · obtain rfl : k = ps.length := by omega
            have HY := Lib.hid (HR.out (by have := Hall.out; rwa [List.take_length] at this))
            obtain ⟨q1, q2, q3, q4, q5⟩ := ver_cells HOr.out (g := b0) (v := .slice none 0 0) (r := 0) (by simp)
            obtain ⟨r1, r2, r3, r4, r5⟩ := ver_cells HOr.out (g := b1) (v := vv) (r := (rv : Int)) (by simp)
            obtain ⟨fa, fc, hf, _, _⟩ := Own.sized (h := (show Own w wr (⟨3, 1, vv, ((ps.take ps.length).map valN).length, ((ps.take ps.length).map valN).map fun (n : Nat) => Value.int .i64 (n : Int)⟩ :: _) from HOr.out.third))
            have HOr2 := Lib.hid (HOr.out.swap.setVer (v' := vv) (r' := (rv : Int)))
            clear HNP
            rw [List.take_length, List.length_map] at hf
            subst hf
            go_wp2_with fail
            obtain ⟨_, _, _, _, k5⟩ := ver_cells HOr2.out (g := b0) (v := .slice fa ps.length fc) (r := (rv : Int)) (by simp)
            refine bodyPost_ret (v := .agg [Value.slice fa ps.length fc, Value.int .i64 (rv : Int)].toArray) (ret_cellV Tryz.results46 rfl k5 Tryz.underlying84 rfl hir) rfl ?_
            refine ⟨.slice fa ps.length fc, by rw [HY.out.2] <;> rfl, ?_⟩
            rw [HY.out.1]
            have h9 := HOr2.out.tail.tail.only (r := rowN (.slice fa ps.length fc) ((ps.take ps.length).map valN)) (by simp)
            rw [List.take_length] at h9
            exact h9
    · have hn : numL (restL l) = false := by simpa using hn
      rw [hn] at HN1
      have HP := Lib.hid (fun w' hb => parsePost_no (w := w) (w' := w') (rightV_no1 hdsh (.inl hn)) hb)

      go_enter Tryz.func46, Tryz.ntmps46
      go_wp2_with fail
      refine (HC _ Hm1.out).mono ?_
      rintro e w2 ⟨rfl, n2, hw2⟩
      have HO2 := Lib.hid (show Own w w2 [rowVer w.heap.size (.slice none 0 0) 0] by rw [hw2]; exact HO1.out.drewN)
      clear hw2 HO1 Hm1
      have HO3 := Lib.hid (HO2.out.ver (.slice none 0 0) 0)
      clear HO2

      go_wp2_with fail
      refine (HN1 _).mono ?_
      rintro e w3 ⟨rfl, hb3⟩
      have HO4 := Lib.hid (HO3.out.later hb3)
      clear hb3 HO3

      obtain ⟨q1, q2, q3, q4, q5⟩ := ver_cells HO4.out (g := w.heap.size) (v := .slice none 0 0) (r := 0) (by simp)
      go_wp2_with fail

      have HE := Lib.hid (Own.setVer1 (r' := 0) (HO4.out.swap.setVer0 (v' := .slice none 0 0)))
      obtain ⟨_, _, _, _, k5⟩ := ver_cells HE.out (g := w.heap.size) (v := .slice none 0 0) (r := 0) (by simp)
      refine bodyPost_ret (v := .agg [Value.slice none 0 0, Value.int .i64 0].toArray) (ret_cellV Tryz.results46 rfl k5 Tryz.underlying84 rfl hir) rfl ?_
      exact HP.out _ HE.out.below
  | false =>
    rw [hdsh] at HC
    have HR := Lib.hid (fun h2 => rightV_yes (l := l) (r := 0) (.inr ⟨hdsh, rfl⟩) h2)
    have HP := Lib.hid (fun h w' hb => parsePost_no (w := w) (w' := w') (rightV_no2 (l := l) h) hb)
    go_enter Tryz.func46, Tryz.ntmps46
    go_wp2_with fail
    refine (HC _ Hm1.out).mono ?_
    rintro e w2 ⟨rfl, n2, hw2⟩
    have HO2 := Lib.hid (show Own w w2 [rowVer w.heap.size (.slice none 0 0) 0] by rw [hw2]; exact HO1.out.drewN)
    clear hw2 HO1 Hm1
    have HO3 := Lib.hid (HO2.out.ver (.slice none 0 0) 0)
    clear HO2
    go_wp2_with fail
    refine (HS1 _ (VMx.own (W0 := w) Hm.out HO3.out)).mono ?_
    rintro e w6 ⟨n6, cs6, rfl, hn6, hO6, hcs6⟩
    have HO6 := Lib.hid (HO3.out.join hO6)
    have HCS := Lib.hid hcs6
    clear hO6 HO3 hcs6 HS1 HN1 HC
    have Hps := Lib.hid hc4
    clear hc4
    generalize cutP (frontL l) = ps at *
    generalize (w2.alloc (.cells #[Value.slice none 0 0, Value.int .i64 0] 84)).heap.size = g at *
    go_wp2_with fail
    generalize hb1 : w2.heap.size = b1 at *
    clear hb1
    generalize hb0 : w.heap.size = b0 at HO6 ⊢
    clear hb0
    have hst : LoopV w ps b0 b1 g 0 n6 cs6 (.int .i64 0) w6 := ⟨0, .slice none 0 0, rfl, Nat.zero_le _, rfl, (HO6.out.nil 3 1).perm (List.perm_append_comm (l₁ := [_, _]) (l₂ := [_, _]))⟩
    have Hst := Lib.hid hst
    clear hst HO6
    go_loopw [37] (fun i wr => LoopV w ps b0 b1 g 0 n6 cs6 i wr) (fun i _ => ps.length - (intOf i).toNat)
    case atStart => exact Hst.out
    case round =>
      obtain ⟨k, vv, rfl, hk, hall, hOr⟩ := hrel
      clear Hst
      have Hall := Lib.hid hall
      have HOr := Lib.hid hOr
      clear hall hOr
      by_cases hlt : k < ps.length
      · have hpc : wr.cell? ⟨g, k, none⟩ = some (.string (toB ps[k])) := by
          have h1 := HOr.out.only (r := ⟨9, 1, .slice (some ⟨g, 0, none⟩) n6 n6, n6, cs6⟩) (by simp)
          rw [Own.cell (h := h1) k (by omega)]; exact HCS.out k hlt
        have hcall := HNP _ (List.getElem_mem hlt) wr
        have hnd : k < n6 := Nat.lt_of_lt_of_le hlt hn6
        clear HNP
        by_cases hg : numL ps[k] = true
        · rw [hg] at hcall
          simp only [if_true] at hcall
          have Hg := Lib.hid hg
          clear hg
          go_wp2_with fail
          refine hcall.mono ?_
          rintro e w7 ⟨rfl, hb7⟩
          have HO7 := Lib.hid (HOr.out.later hb7)
          clear hb7 HOr hpc
          obtain ⟨q1, q2, q3, q4, q5⟩ := ver_cells HO7.out (g := b1) (v := vv) (r := 0) (by simp)
          have hcl : ((ps.take k).map valN).length = k := by rw [List.length_map, List.length_take]; omega
          obtain ⟨fa, fc, hf, _, _⟩ := Own.sized (h := (show Own w w7 (⟨3, 1, vv, ((ps.take k).map valN).length, ((ps.take k).map valN).map fun (n : Nat) => Value.int .i64 (n : Int)⟩ :: _) from HO7.out.third))
          have hO7 : Own w w7 (⟨3, 1, vv, k, ((ps.take k).map valN).map fun (n : Nat) => Value.int .i64 (n : Int)⟩ :: [rowVer b1 vv 0, rowVer b0 (.slice none 0 0) 0, ⟨9, 1, .slice (some ⟨g, 0, none⟩) n6 n6, n6, cs6⟩]) := by
            have := HO7.out.third
            unfold rowN at this
            rw [hcl] at this
            exact this
          rw [hcl] at hf
          have HO8 := Lib.hid (hO7.alloc (.cells #[.int .i64 (valN ps[k] : Int)] 3))
          have hsrc : Src (w7.alloc (.cells #[.int .i64 (valN ps[k] : Int)] 3)) (.slice (some ⟨w7.heap.size, 0, none⟩) 1 1) 1 [.int .i64 (valN ps[k] : Int)] := by
            refine .inr ⟨_, _, rfl, fun j u hj => ?_, fun u hu => by rw [List.mem_singleton.1 hu]; rfl⟩
            rw [Addr.add_mid, Nat.zero_add, World.cell?_alloc_new]
            simpa using hj
          have Hsrc := Lib.hid hsrc
          have h4 := Hps.out
          have Hb1 := Lib.hid (show k + 1 ≤ maxLen by unfold maxLen; omega)
          have Hb2 := Lib.hid (show (k + 1) * 8 ≤ 140737488355328 by omega)
          clear hsrc hcall hcl hO7 HO7 q2 q4 q5 h4
          generalize hxs : (((ps.take k).map valN).map fun (n : Nat) => Value.int .i64 (n : Int)) = xs at *
          have Hxs := Lib.hid hxs
          clear hxs
          subst hf
          go_wp2_with (at_builtin; refine wpList_append_src rfl (.tmp 50) (.tmp 52) 71 rfl (.slice fa k fc) k xs (.slice (some ⟨w7.heap.size, 0, none⟩) 1 1) 1 [.int .i64 (valN ps[k] : Int)] rfl rfl HO8.out i0 (.int .i64 0) 8 Tryz.underlying71 hi hz0 hz1 hz2 rfl (by decide) Hsrc.out rfl Hb1.out Hb2.out ?_)
          intro v9 w9 hO9
          obtain ⟨a9, c9, hv9, _, _⟩ := Own.sized (h := hO9)
          subst hv9
          obtain ⟨r1, r2, r3, r4, r5⟩ := ver_cells hO9 (g := b1) (v := .slice fa k fc) (r := 0) (by simp)
          have HX := Lib.hid (show ∀ i, i = .int .i64 ((k + 1 : Nat) : Int) → LoopV w ps b0 b1 g 0 n6 cs6 i (w9.setCell ⟨b1, 0, none⟩ (.slice a9 (k + 1) c9)) from by
            intro i hi
            refine ⟨k + 1, .slice a9 (k + 1) c9, hi, hlt, by rw [all_take_succV _ _ _ hlt, Hall.out, Hg.out]; rfl, ?_⟩
            rw [← Hxs.out] at hO9
            have h2 := (hO9.swap.setVer0 (v' := .slice a9 (k + 1) c9)).perm (List.Perm.cons _ (List.Perm.swap _ _ _))
            unfold rowN
            rw [List.take_succ_eq_append_getElem hlt, List.map_append, List.map_append, List.length_append, List.length_map, List.length_take, Nat.min_eq_left (Nat.le_of_lt hlt)]
            exact h2)
          clear hO9 HO8 Hsrc Hb1 Hb2 r2 r4 r5 q1 q3 Hall Hg Hxs
          have h4 := Hps.out
          go_wp2_with fail
          go_roundw
          case rel => exact HX.out _ (by go_num)
          case measure => simp [intOf]; omega
        · have hg : numL ps[k] = false := by simpa using hg
          rw [hg] at hcall
          have HNO := Lib.hid (HP.out (all_at_noV numL ps k hlt hg))
          clear hg
          go_wp2_with fail
          refine hcall.mono ?_
          rintro e w7 ⟨rfl, hb7⟩
          have HO7 := Lib.hid (HOr.out.later hb7)
          clear hb7 HOr hpc hcall
          obtain ⟨q1, q2, q3, q4, q5⟩ := ver_cells HO7.out (g := b0) (v := .slice none 0 0) (r := 0) (by simp)
          go_wp2_with fail
          have HE := Lib.hid (Own.setVer1 (r' := 0) (HO7.out.swap.setVer0 (v' := .slice none 0 0)))
          obtain ⟨_, _, _, _, k5⟩ := ver_cells HE.out (g := b0) (v := .slice none 0 0) (r := 0) (by simp)
          refine bodyPost_ret (v := .agg [Value.slice none 0 0, Value.int .i64 0].toArray) (ret_cellV Tryz.results46 rfl k5 Tryz.underlying84 rfl hir) rfl ?_
          exact HNO.out _ HE.out.below
      · obtain rfl : k = ps.length := by omega
        have HY := Lib.hid (HR.out (by have := Hall.out; rwa [List.take_length] at this))
        obtain ⟨q1, q2, q3, q4, q5⟩ := ver_cells HOr.out (g := b0) (v := .slice none 0 0) (r := 0) (by simp)
        obtain ⟨r1, r2, r3, r4, r5⟩ := ver_cells HOr.out (g := b1) (v := vv) (r := 0) (by simp)
        obtain ⟨fa, fc, hf, _, _⟩ := Own.sized (h := (show Own w wr (⟨3, 1, vv, ((ps.take ps.length).map valN).length, ((ps.take ps.length).map valN).map fun (n : Nat) => Value.int .i64 (n : Int)⟩ :: _) from HOr.out.third))
        have HOr2 := Lib.hid (HOr.out.swap.setVer (v' := vv) (r' := 0))
        clear HNP
        rw [List.take_length, List.length_map] at hf
        subst hf
        go_wp2_with fail
        obtain ⟨_, _, _, _, k5⟩ := ver_cells HOr2.out (g := b0) (v := .slice fa ps.length fc) (r := 0) (by simp)
        refine bodyPost_ret (v := .agg [Value.slice fa ps.length fc, Value.int .i64 0].toArray) (ret_cellV Tryz.results46 rfl k5 Tryz.underlying84 rfl hir) rfl ?_
        refine ⟨.slice fa ps.length fc, by rw [HY.out.2] <;> rfl, ?_⟩
        rw [HY.out.1]
        have h9 := HOr2.out.tail.tail.only (r := rowN (.slice fa ps.length fc) ((ps.take ps.length).map valN)) (by simp)
        rw [List.take_length] at h9
        exact h9
end Go.Proofs.YtihnjhigemhknaaGreatDoor
