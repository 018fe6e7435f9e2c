/- UnitTells: its walk. -/
import Derived.Test.YtmnohaefklglfaaDoorUn20
import Derived.Deep.RegionHeld3
import Derived.Deep.RegionHeldLaw
import Derived.Deep.DeepCutAuto
namespace Go.Proofs.YtmnohaefklglfaaDoor
open Go.RowKit
set_option linter.unusedVariables false
set_option linter.unusedSimpArgs false
set_option maxRecDepth 100000

set_option maxHeartbeats 16000000 in
theorem tells_law (w : World) (hm : Mx w) (htab : Lib.TabIs Tryd.prog w "internal/strconv.uint64pow10" .u64 Lib.pow10Tab) (v : Value) (name : List UInt8) (ls : List (List (List UInt8))) (r : Int) (h : UnitW w v name ls r) (hname : name.length ≤ maxLen) (hstr : ∀ l ∈ ls, ∀ x ∈ l, x.length ≤ maxLen) :
    Calls Tryd.prog 5 #[v] w fun e w' => e = .returned (.bool true) ∧ Below w.heap.size w w' := by
  have HUW := Lib.hid h
  obtain ⟨v0, v1, v2, v3, v4, v5, l0, l1, l2, l3, l4, l5, rfl, rfl, hU⟩ := h
  have HU := Lib.hid hU
  obtain ⟨a0, c0, rfl, hc0⟩ := hU.s0
  obtain ⟨a1, c1, rfl, hc1⟩ := hU.s1
  obtain ⟨a2, c2, rfl, hc2⟩ := hU.s2
  obtain ⟨a3, c3, rfl, hc3⟩ := hU.s3
  obtain ⟨a4, c4, rfl, hc4⟩ := hU.s4
  obtain ⟨a5, c5, rfl, hc5⟩ := hU.s5
  have rows : ∀ k, k < 6 → ∃ a l c, (#[.slice a0 l0.length c0, .slice a1 l1.length c1, .slice a2 l2.length c2, .slice a3 l3.length c3, .slice a4 l4.length c4, .slice a5 l5.length c5] : Array Value)[k]? = some (.slice a l.length c) ∧ ([l0, l1, l2, l3, l4, l5].getD k [] = l ∧ l ∈ [l0, l1, l2, l3, l4, l5]) ∧ Sts w (.slice a l.length c) l ∧ ∀ x ∈ l, x.length ≤ maxLen := fun k hk => by
    match k, hk with
    | 0, _ => exact ⟨_, _, _, rfl, ⟨rfl, by simp⟩, hU.s0, hstr l0 (by simp)⟩
    | 1, _ => exact ⟨_, _, _, rfl, ⟨rfl, by simp⟩, hU.s1, hstr l1 (by simp)⟩
    | 2, _ => exact ⟨_, _, _, rfl, ⟨rfl, by simp⟩, hU.s2, hstr l2 (by simp)⟩
    | 3, _ => exact ⟨_, _, _, rfl, ⟨rfl, by simp⟩, hU.s3, hstr l3 (by simp)⟩
    | 4, _ => exact ⟨_, _, _, rfl, ⟨rfl, by simp⟩, hU.s4, hstr l4 (by simp)⟩
    | 5, _ => exact ⟨_, _, _, rfl, ⟨rfl, by simp⟩, hU.s5, hstr l5 (by simp)⟩
  have Rows := Lib.hid rows
  have HN := Lib.hid (fun W => refname_l name W hname)
  have HM := Lib.hid hm
  have HT := Lib.hid htab
  have hb1 : Below w.heap.size w (w.alloc (.cells #[.string (toB name), .slice a0 l0.length c0, .slice a1 l1.length c1, .slice a2 l2.length c2, .slice a3 l3.length c3, .slice a4 l4.length c4, .slice a5 l5.length c5, .int .i64 r] 25)) := (Below.refl _ w).alloc (Nat.le_refl _) _
  have hd1 : (w.alloc (.cells #[.string (toB name), .slice a0 l0.length c0, .slice a1 l1.length c1, .slice a2 l2.length c2, .slice a3 l3.length c3, .slice a4 l4.length c4, .slice a5 l5.length c5, .int .i64 r] 25)).heap[w.heap.size]? = some (.cells #[.string (toB name), .slice a0 l0.length c0, .slice a1 l1.length c1, .slice a2 l2.length c2, .slice a3 l3.length c3, .slice a4 l4.length c4, .slice a5 l5.length c5, .int .i64 r] 25) := World.alloc_heap_new w _
  have hal := unit_alive (w.alloc (.cells #[.string (toB name), .slice a0 l0.length c0, .slice a1 l1.length c1, .slice a2 l2.length c2, .slice a3 l3.length c3, .slice a4 l4.length c4, .slice a5 l5.length c5, .int .i64 r] 25)) (hm.later hb1)
  have HB1 := Lib.hid hb1
  have HD1 := Lib.hid hd1
  clear rows hU hstr hname hm htab hb1 hd1 hc0 hc1 hc2 hc3 hc4 hc5
  go_enter Tryd.func5, Tryd.ntmps5
  go_upto_region 3 with (refine hal.mono ?_; rintro e w1 ⟨rfl, hb2⟩)
  have HB2 := Lib.hid (HB1.out.trans (hb2.mono HB1.out.size))
  have hlt : w.heap.size < w1.heap.size := Nat.lt_of_lt_of_le (by rw [World.size_alloc]; omega) hb2.size
  have HD2 := Lib.hid (show w1.heap[w.heap.size]? = some (.cells #[.string (toB name), .slice a0 l0.length c0, .slice a1 l1.length c1, .slice a2 l2.length c2, .slice a3 l3.length c3, .slice a4 l4.length c4, .slice a5 l5.length c5, .int .i64 r] 25) from (hb2.block _ (lt_of_heap HD1.out)).trans HD1.out)
  clear hb2 hal
  go_cut [3] (fun s wc => s = .bool (frontT name l0 r) ∧ wc = w1)
  case first =>
    obtain ⟨p0, p1, p2, p3, p4, p5, p6, p7⟩ := box_cells HD2.out
    have HN1 := Lib.hid (HN.out w1)
    have HF := Lib.hid (show frontT name l0 r = (nameL name && decide (0 ≤ r) && decide (r ≤ 3) && decide (0 < l0.length)) from rfl)
    cases hn : nameL name
    · rw [hn] at HN1 HF
      go_wp2_with fail
      refine HN1.out.mono ?_
      rintro e w2 ⟨rfl, rfl⟩
      go_wp2_with fail
      go_meet
      exact ⟨by rw [HF.out]; rfl, rfl⟩
    · rw [hn] at HN1 HF
      by_cases hr0 : 0 ≤ r
      · by_cases hr3 : r ≤ 3
        · rw [decide_eq_true hr0, decide_eq_true hr3] at HF
          have hl0 : decide ((0 : Int) < (l0.length : Int)) = decide (0 < l0.length) := by rw [decide_eq_decide]; omega
          have HL0 := Lib.hid hl0
          clear hl0
          go_wp2_with fail
          refine HN1.out.mono ?_
          rintro e w2 ⟨rfl, rfl⟩
          go_wp2_with fail
          go_meet
          exact ⟨by rw [HF.out]; first | rfl | (rw [← HL0.out]; rfl) | (simp), rfl⟩
        · rw [decide_eq_true hr0, decide_eq_false hr3] at HF
          go_wp2_with fail
          refine HN1.out.mono ?_
          rintro e w2 ⟨rfl, rfl⟩
          go_wp2_with fail
          go_meet
          exact ⟨by rw [HF.out]; rfl, rfl⟩
      · rw [decide_eq_false hr0] at HF
        go_wp2_with fail
        refine HN1.out.mono ?_
        rintro e w2 ⟨rfl, rfl⟩
        go_wp2_with fail
        go_meet
        exact ⟨by rw [HF.out]; rfl, rfl⟩
  case rest =>
    obtain ⟨rfl, rfl⟩ := hcut
    obtain ⟨W2, hW2⟩ : ∃ W2, W2 = wc.alloc (.cells #[.slice a0 l0.length c0, .slice a1 l1.length c1, .slice a2 l2.length c2, .slice a3 l3.length c3, .slice a4 l4.length c4, .slice a5 l5.length c5] 23) := ⟨_, rfl⟩
    have b2 : Below wc.heap.size wc W2 := by rw [hW2]; exact (Below.refl _ _).alloc (Nat.le_refl _) _
    have HBW := Lib.hid (HB2.out.trans (b2.mono HB2.out.size))
    have HDW := Lib.hid ((b2.block _ hlt).trans HD2.out)
    have HRW := Lib.hid (show W2.heap[wc.heap.size]? = some (.cells #[.slice a0 l0.length c0, .slice a1 l1.length c1, .slice a2 l2.length c2, .slice a3 l3.length c3, .slice a4 l4.length c4, .slice a5 l5.length c5] 23) from by rw [hW2]; exact World.alloc_heap_new wc _)
    obtain ⟨p0, p1, p2, p3, p4, p5, p6, p7⟩ := box_cells HD2.out
    have HW2 := Lib.hid hW2
    clear b2 hW2
    obtain ⟨G0, hG0⟩ : ∃ G0, frontT name l0 r = G0 := ⟨_, rfl⟩
    rw [hG0]
    have HG0 := Lib.hid hG0
    clear hG0
    go_wp2_with fail
    rw [← HW2.out]
    clear p0 p1 p2 p3 p4 p5 p6 p7
    generalize wc.heap.size = rb at *
    go_loopw [3, 48] (fun s i wr => ∃ k : Nat, k ≤ 6 ∧ i = .int .i64 k ∧ s = .bool (outT [l0, l1, l2, l3, l4, l5] G0 k) ∧ Below W2.heap.size W2 wr ∧ Hid (∀ q, q < k → ([l0, l1, l2, l3, l4, l5].getD q []).length ≤ 12 ∧ ∀ x ∈ [l0, l1, l2, l3, l4, l5].getD q [], x.length ≤ 1000)) (fun _ i _ => 6 - (intOf i).toNat)
    case atStart => exact ⟨0, Nat.zero_le _, rfl, rfl, Below.refl _ _, fun q hq => absurd hq (by omega)⟩
    case round =>
      obtain ⟨k, hk, rfl, rfl, hbr, HQ⟩ := hrel
      by_cases hk6 : k < 6
      · obtain ⟨a, l, c, e1, ⟨e2, hmem⟩, hst, hsx⟩ := Rows.out k hk6
        have hkc : wr.cell? ⟨rb, k, none⟩ = some (.slice a l.length c) := by rw [cell_at ((hbr.block _ (lt_of_heap HRW.out)).trans HRW.out) k]; exact e1
        have HSt := Lib.hid ((hst.later HBW.out).later hbr)
        have hout : outT [l0, l1, l2, l3, l4, l5] G0 (k + 1) = inT k l l.length (outT [l0, l1, l2, l3, l4, l5] G0 k && decide (l.length ≤ 8)) := by
          show inT k ([l0, l1, l2, l3, l4, l5].getD k []) ([l0, l1, l2, l3, l4, l5].getD k []).length (outT [l0, l1, l2, l3, l4, l5] G0 k && decide (([l0, l1, l2, l3, l4, l5].getD k []).length ≤ 8)) = _
          rw [e2]
        have HOut := Lib.hid hout
        have HSx := Lib.hid hsx
        have HE2 := Lib.hid e2
        have HBr := Lib.hid hbr
        clear e1 e2 hmem hst hsx hout hbr
        generalize outT [l0, l1, l2, l3, l4, l5] G0 k = B at *
        have hdec : decide ((k : Int) < 6) = true := decide_eq_true (by omega)
        by_cases h12 : l.length ≤ 12
        · have g12 : ¬ (12 : Int) < (l.length : Int) := by omega
          go_upto_region 9 with (fail)
          go_cut [3] (fun s wc => s = .bool (B && decide (l.length ≤ 8)) ∧ wc = wr)
          case first =>
            have h8 : decide ((l.length : Int) ≤ 8) = decide (l.length ≤ 8) := by rw [decide_eq_decide]; omega
            cases B
            · go_wp2_with fail
              go_meet
              exact ⟨rfl, rfl⟩
            · have H8 := Lib.hid h8
              clear h8
              go_wp2_with fail
              go_meet
              exact ⟨by first | rfl | (rw [← H8.out]; rfl) | simp, rfl⟩
          case rest =>
            obtain ⟨rfl, rfl⟩ := hcut
            generalize (B && decide (l.length ≤ 8)) = B8 at *
            go_wp2_with fail
            go_loopw [3, 64] (fun s i wr => ∃ j : Nat, j ≤ l.length ∧ i = .int .i64 j ∧ s = .bool (inT k l j B8) ∧ Below wc.heap.size wc wr ∧ Hid (∀ x ∈ l.take j, x.length ≤ 60)) (fun _ i _ => l.length - (intOf i).toNat)
            case atStart => exact ⟨0, Nat.zero_le _, rfl, rfl, Below.refl _ _, fun x hx => by simp at hx⟩
            case round =>
              obtain ⟨j, hj, rfl, rfl, hbq, HX⟩ := hrel
              by_cases hjl : j < l.length
              · have hstq := HSt.out.later hbq
                have hstk := hstq.take j hj
                obtain ⟨a', c', e', _, _, hcs⟩ := hstq
                injection e' with e1 e2 e3
                subst e1 e3
                obtain ⟨g, o, rfl, _, hcell⟩ := hcs (by omega)
                have hjc := hcell j hjl
                have hxm := HSx.out l[j] (List.getElem_mem hjl)
                have HIn := Lib.hid (inT_succ (k := k) (b := B8) hjl)
                have htk : l.take (j + 1) = l.take j ++ [l[j]] := List.take_succ_eq_append_getElem hjl
                have HTk := Lib.hid htk
                have HTL := Lib.hid (show (l.take j).length ≤ 1000000 from by rw [List.length_take]; omega)
                have HStk := Lib.hid hstk
                have HBq := Lib.hid hbq
                have hslc : (j : Int) ≤ (l.length : Int) := by omega
                clear hcell hcs htk hstk hbq
                generalize l[j] = x at *
                have HSp := Lib.hid (refsplit_l x wr hxm)
                have HNm := Lib.hid (fun W => refname_l x W hxm)
                have HHs := Lib.hid (fun W (hb : Below wr.heap.size wr W) => has13_any _ _ x W (HStk.out.later hb) HTL.out)
                have hzx : (toB x).size = x.length := toB_size x
                have HZx := Lib.hid hzx
                by_cases hx60 : x.length ≤ 60
                · have g60 : ¬ (60 : Int) < ((toB x).size : Int) := by omega
                  have HX2 := Lib.hid (show ∀ y ∈ l.take (j + 1), y.length ≤ 60 from fun y hy => by
                    rw [HTk.out] at hy
                    rcases List.mem_append.1 hy with hy | hy
                    · exact HX.out y hy
                    · rw [List.mem_singleton.1 hy]; exact hx60)
                  clear hzx hx60 hxm
                  generalize toB x = xb at *
                  go_wp2_with fail
                  refine HSp.out.mono ?_
                  rintro e w3 ⟨v3, rfl, hO3⟩
                  obtain ⟨a3, c3, rfl, _, _⟩ := Own.sized (h := hO3)
                  have hz3 : (rowSs (Value.slice a3 (namesL x).length c3) (namesL x)).n = (namesL x).length := rfl
                  have HB3 := Lib.hid hO3.below
                  have HHs := Lib.hid (HHs.out w3 hO3.below)
                  have HNm := Lib.hid (HNm.out w3)
                  have HBq3 := Lib.hid (HBq.out.trans (HB3.out.mono HBq.out.size))
                  clear hO3 hz3 HSp
                  cases hR : inT k l j B8
                  · rw [hR] at HIn
                    clear hR
                    go_wp2_with fail
                    go_roundw
                    case rel => exact ⟨j + 1, by omega, by go_num, by rw [HIn.out]; rfl, HBq3.out, HX2⟩
                    case measure => simp [intOf]; omega
                  · rw [hR] at HIn
                    clear hR
                    by_cases hk0 : k = 0
                    · have HRt := Lib.hid (show rightU k x = (okP x && decide (0 < (namesL x).length)) from by rw [hk0]; exact rightU_zero x)
                      have z1 : ((k : Int) == 0) = true := by rw [beq_iff_eq]; omega
                      have z2 : ¬ (0 : Int) < (k : Int) := by omega
                      clear hk0
                      cases hok : okP x
                      · rw [hok] at HRt
                        clear hok
                        go_wp2_with fail
                        go_roundw
                        case rel => exact ⟨j + 1, by omega, by go_num, by rw [HIn.out, HRt.out]; rfl, HBq3.out, HX2⟩
                        case measure => simp [intOf]; omega
                      · rw [hok] at HRt
                        clear hok
                        by_cases hn0 : 0 < (namesL x).length
                        · rw [decide_eq_true hn0] at HRt
                          have z3 : (0 : Int) < ((namesL x).length : Int) := by omega
                          clear hn0
                          generalize (namesL x).length = nn at *
                          go_wp2_with fail
                          refine HHs.out.mono ?_
                          rintro e w4 ⟨rfl, rfl⟩
                          go_wp2_with fail
                          go_roundw
                          case rel => exact ⟨j + 1, by omega, by go_num, by rw [HIn.out, HRt.out]; rfl, HBq3.out, HX2⟩
                          case measure => simp [intOf]; omega
                        · rw [decide_eq_false hn0] at HRt
                          have z3 : ¬ (0 : Int) < ((namesL x).length : Int) := by omega
                          clear hn0
                          generalize (namesL x).length = nn at *
                          go_wp2_with fail
                          go_roundw
                          case rel => exact ⟨j + 1, by omega, by go_num, by rw [HIn.out, HRt.out]; rfl, HBq3.out, HX2⟩
                          case measure => simp [intOf]; omega
                    · have HRt := Lib.hid (rightU_other hk0 x)
                      have z1 : ((k : Int) == 0) = false := by rw [beq_eq_false_iff_ne]; omega
                      have z2 : (0 : Int) < (k : Int) := by omega
                      clear hk0
                      cases hnm : nameL x
                      · rw [hnm] at HRt HNm
                        clear hnm
                        go_wp2_with fail
                        refine HNm.out.mono ?_
                        rintro e w4 ⟨rfl, rfl⟩
                        go_wp2_with fail
                        go_roundw
                        case rel => exact ⟨j + 1, by omega, by go_num, by rw [HIn.out, HRt.out]; rfl, HBq3.out, HX2⟩
                        case measure => simp [intOf]; omega
                      · rw [hnm] at HRt HNm
                        clear hnm
                        go_wp2_with fail
                        refine HNm.out.mono ?_
                        rintro e w4 ⟨rfl, rfl⟩
                        go_wp2_with fail
                        refine HHs.out.mono ?_
                        rintro e w5 ⟨rfl, rfl⟩
                        go_wp2_with fail
                        go_roundw
                        case rel => exact ⟨j + 1, by omega, by go_num, by rw [HIn.out, HRt.out]; rfl, HBq3.out, HX2⟩
                        case measure => simp [intOf]; omega
                · have g60 : (60 : Int) < ((toB x).size : Int) := by omega
                  clear hzx hx60 hxm
                  generalize toB x = xb at *
                  go_wp2_with fail
                  go_ret
                  exact ⟨rfl, (HBW.out.trans (HBr.out.mono HBW.out.size)).trans (HBq.out.mono (HBW.out.trans (HBr.out.mono HBW.out.size)).size)⟩
              · obtain rfl : j = l.length := by omega
                rw [List.take_length] at HX
                have HBq3 := Lib.hid (HBr.out.trans (hbq.mono HBr.out.size))
                have HQ2 := Lib.hid (show ∀ q, q < k + 1 → ([l0, l1, l2, l3, l4, l5].getD q []).length ≤ 12 ∧ ∀ x ∈ [l0, l1, l2, l3, l4, l5].getD q [], x.length ≤ 1000 from fun q hq => by
                  by_cases hqk : q < k
                  · exact HQ.out q hqk
                  · obtain rfl : q = k := by omega
                    rw [HE2.out]
                    exact ⟨h12, fun x hx => Nat.le_trans (HX.out x hx) (by decide)⟩)
                have hnl : ¬ (l.length : Int) < (l.length : Int) := Int.lt_irrefl _
                clear hbq
                go_wp2_with fail
                go_roundw
                case rel => exact ⟨k + 1, by omega, by go_num, by rw [HOut.out], HBq3.out, HQ2⟩
                case measure => simp [intOf]; omega
        · have g12 : (12 : Int) < (l.length : Int) := by omega
          go_wp2_with fail
          go_ret
          exact ⟨rfl, HBW.out.trans (HBr.out.mono HBW.out.size)⟩
      · obtain rfl : k = 6 := by omega
        have hls : ∀ y ∈ [l0, l1, l2, l3, l4, l5], y.length ≤ 12 ∧ ∀ x ∈ y, x.length ≤ 1000 := fun y hy => by
          have hq := HQ.out
          simp only [List.mem_cons, List.not_mem_nil, or_false] at hy
          rcases hy with rfl | rfl | rfl | rfl | rfl | rfl
          · exact hq 0 (by omega)
          · exact hq 1 (by omega)
          · exact hq 2 (by omega)
          · exact hq 3 (by omega)
          · exact hq 4 (by omega)
          · exact hq 5 (by omega)
        obtain ⟨R, hR⟩ : ∃ R, outT [l0, l1, l2, l3, l4, l5] G0 6 = R := ⟨_, rfl⟩
        rw [hR]
        have HGood := Lib.hid (show R = true ↔ GoodU name [l0, l1, l2, l3, l4, l5] r from by rw [← hR, ← HG0.out]; exact good_iff name l0 l1 l2 l3 l4 l5 r)
        have hd := (hbr.block _ (lt_of_heap HDW.out)).trans HDW.out
        have HD := Lib.hid hd
        obtain ⟨p0, p1, p2, p3, p4, p5, p6, p7⟩ := box_cells hd
        have HBr := Lib.hid (HBW.out.trans (hbr.mono HBW.out.size))
        have hzn : (toB name).size = name.length := toB_size name
        clear hd hR hbr
        by_cases hn60 : name.length ≤ 60
        · have gn : ¬ (60 : Int) < ((toB name).size : Int) := by omega
          by_cases hr1 : r ≤ 99
          · have g1 : ¬ (99 : Int) < r := by omega
            by_cases hr2 : -99 ≤ r
            · have g2 : ¬ r < -99 := by omega
              have ht := text_any wr name _ _ _ _ _ _ l0 l1 l2 l3 l4 l5 r (Lib.itoa r) (HU.out.s0.later HBr.out) (HU.out.s1.later HBr.out) (HU.out.s2.later HBr.out) (HU.out.s3.later HBr.out) (HU.out.s4.later HBr.out) (HU.out.s5.later HBr.out) (by omega) hls (itoa_len r hr2 hr1) (fun W hW => itoa_any r hr2 hr1 W (tab_later HT.out (HBr.out.trans (hW.mono HBr.out.size))))
              have htl := textT_len (name := name) (dg := Lib.itoa r) (by omega) hls (itoa_len r hr2 hr1)
              have hgt : R = true → parseU (textT name [l0, l1, l2, l3, l4, l5] (Lib.itoa r)) = (0, 0, ⟨name, [l0, l1, l2, l3, l4, l5], some r.toNat⟩) := fun e => by
                have hg := HGood.out.1 e
                have h1 := hg.low
                have h2 := hg.high
                have h3 : ((r.toNat : Nat) : Int) = r := by omega
                rw [← itoa_back r h1 h2]
                exact parse_text (h3.symm ▸ hg)
              obtain ⟨txt, htxt⟩ : ∃ txt, textT name [l0, l1, l2, l3, l4, l5] (Lib.itoa r) = txt := ⟨_, rfl⟩
              rw [htxt] at ht htl hgt
              have hfew := lists_few txt
              have hpg := parse_good txt
              have hp := fun W (k : Mx W) => parse_one W k txt htl
              obtain ⟨P, hP⟩ : ∃ P, parseU txt = P := ⟨_, rfl⟩
              obtain ⟨pe, pn, pu⟩ := P
              simp only [hP] at hp hgt hfew hpg
              have hsame : ∀ (bb : Bool), R = bb → pe = 0 → (decide (name = pu.name) && decide (r = retU pu) && decide ([l0, l1, l2, l3, l4, l5] = pu.ls)) = bb := fun bb hb he => by
                subst hb
                rw [Bool.eq_iff_iff, Bool.and_eq_true, Bool.and_eq_true, decide_eq_true_iff, decide_eq_true_iff, decide_eq_true_iff]
                constructor
                · rintro ⟨⟨e1, e2⟩, e3⟩
                  refine HGood.out.2 ?_
                  rw [e1, e2, e3]
                  exact hpg he
                · intro e
                  have h1 := (HGood.out.1 e).low
                  have h2 := hgt e
                  injection h2 with _ h2
                  injection h2 with _ h2
                  subst h2
                  exact ⟨⟨rfl, by show r = ((r.toNat : Nat) : Int); omega⟩, rfl⟩
              have hpe : R = true → pe = 0 := fun e => by
                have h2 := hgt e
                injection h2
              have hSm := fun (bb : Bool) (hb : R = bb) (he : pe = 0) (W : World) (x y : Value) (h1 : UnitW W x name [l0, l1, l2, l3, l4, l5] r) (h2 : UnitW W y pu.name pu.ls (retU pu)) => by
                have := samew_any W x y name pu.name [l0, l1, l2, l3, l4, l5] pu.ls r (retU pu) h1 h2 (fun l hl => by have := (hls l hl).1; omega) hfew
                rw [hsame bb hb he] at this
                exact this
              have HP := Lib.hid hp
              have HSm := Lib.hid hSm
              have HPe := Lib.hid hpe
              clear hls htl hgt hfew hpg hp hP hsame hpe hSm htxt hzn hn60 hr1 hr2
              go_wp2_with fail
              rotate_left 1
              · go_ret
                exact ⟨rfl, HBr.out⟩
              refine ht.mono ?_
              rintro e w4 ⟨rfl, hb4⟩
              have HB4 := Lib.hid (HBr.out.trans (hb4.mono HBr.out.size))
              have HD4 := Lib.hid ((hb4.block _ (lt_of_heap HD.out)).trans HD.out)
              clear ht hb4 p0 p1 p2 p3 p4 p5 p6 p7 gn g1 g2
              go_wp2_with fail
              refine (HP.out w4 (HM.out.later HB4.out)).mono ?_
              rintro e w5 ⟨⟨pv, rfl, hV⟩, hb5⟩
              have HV := Lib.hid hV
              obtain ⟨n1, b1, b2, b3, b4, b5, b6, m1, m2, m3, m4, m5, m6, d1, d2, d3, d4, d5, d6, r1, rfl⟩ := unit_parts hV
              have HB5 := Lib.hid (HB4.out.trans (hb5.mono HB4.out.size))
              have HD5 := Lib.hid ((hb5.block _ (lt_of_heap HD4.out)).trans HD4.out)
              obtain ⟨x5, hx5⟩ : ∃ x, x = w5.alloc (.cells #[.string n1, .slice b1 m1 d1, .slice b2 m2 d2, .slice b3 m3 d3, .slice b4 m4 d4, .slice b5 m5 d5, .slice b6 m6 d6, .int .i64 r1] 25) := ⟨_, rfl⟩
              have al : Below w5.heap.size w5 x5 := by rw [hx5]; exact (Below.refl _ _).alloc (Nat.le_refl _) _
              have HX5 := Lib.hid (HB5.out.trans (al.mono HB5.out.size))
              have HE5 := Lib.hid (show x5.heap[w5.heap.size]? = some (.cells #[.string n1, .slice b1 m1 d1, .slice b2 m2 d2, .slice b3 m3 d3, .slice b4 m4 d4, .slice b5 m5 d5, .slice b6 m6 d6, .int .i64 r1] 25) from by rw [hx5]; exact World.alloc_heap_new w5 _)
              have HD5 := Lib.hid ((al.block _ (lt_of_heap HD5.out)).trans HD5.out)
              have HVx := Lib.hid (HV.out.w.later al)
              have HUx := Lib.hid (HUW.out.later HX5.out)
              have HXE := Lib.hid hx5
              clear hV hb5 al hx5
              have HKeep := Lib.hid (fun (W : World) (hW : Below x5.heap.size x5 W) => two_cells (w := W) (T := 25) ((hW.block _ (lt_of_heap HD5.out)).trans HD5.out) ((hW.block _ (lt_of_heap HE5.out)).trans HE5.out))
              have HPl1 := Lib.hid (fun (W : World) (hW : Below x5.heap.size x5 W) => plain_w W _ name [l0, l1, l2, l3, l4, l5] r (HUx.out.later hW))
              have HPl2 := Lib.hid (fun (W : World) (hW : Below x5.heap.size x5 W) => plain_w W _ pu.name pu.ls (retU pu) (HVx.out.later hW))
              have HSm2 := Lib.hid (fun (bb : Bool) (hb : R = bb) (he : pe = 0) (W : World) (hW : Below x5.heap.size x5 W) => HSm.out bb hb he W _ _ (HUx.out.later hW) (HVx.out.later hW))
              clear HSm
              cases R
              · by_cases hpe0 : pe = 0
                · have HSa := Lib.hid (HSm2.out false rfl hpe0)
                  clear HSm2
                  subst hpe0
                  go_wp2_with fail
                  rw [← HXE.out]
                  have sN : x5.cell? ⟨w.heap.size, 0, none⟩ = some (.string (toB name)) ∧ x5.cell? ⟨w.heap.size, 1, none⟩ = some (.slice a0 l0.length c0) ∧ x5.cell? ⟨w.heap.size, 2, none⟩ = some (.slice a1 l1.length c1) ∧ x5.cell? ⟨w.heap.size, 3, none⟩ = some (.slice a2 l2.length c2) ∧ x5.cell? ⟨w.heap.size, 4, none⟩ = some (.slice a3 l3.length c3) ∧ x5.cell? ⟨w.heap.size, 5, none⟩ = some (.slice a4 l4.length c4) ∧ x5.cell? ⟨w.heap.size, 6, none⟩ = some (.slice a5 l5.length c5) ∧ x5.cell? ⟨w.heap.size, 7, none⟩ = some (.int .i64 r) ∧ x5.cell? ⟨w5.heap.size, 0, none⟩ = some (.string n1) ∧ x5.cell? ⟨w5.heap.size, 1, none⟩ = some (.slice b1 m1 d1) ∧ x5.cell? ⟨w5.heap.size, 2, none⟩ = some (.slice b2 m2 d2) ∧ x5.cell? ⟨w5.heap.size, 3, none⟩ = some (.slice b3 m3 d3) ∧ x5.cell? ⟨w5.heap.size, 4, none⟩ = some (.slice b4 m4 d4) ∧ x5.cell? ⟨w5.heap.size, 5, none⟩ = some (.slice b5 m5 d5) ∧ x5.cell? ⟨w5.heap.size, 6, none⟩ = some (.slice b6 m6 d6) ∧ x5.cell? ⟨w5.heap.size, 7, none⟩ = some (.int .i64 r1) := HKeep.out x5 (Below.refl _ _)
                  go_region_held3 (fun W : World => W.cell? ⟨w.heap.size, 0, none⟩ = some (.string (toB name)) ∧ W.cell? ⟨w.heap.size, 1, none⟩ = some (.slice a0 l0.length c0) ∧ W.cell? ⟨w.heap.size, 2, none⟩ = some (.slice a1 l1.length c1) ∧ W.cell? ⟨w.heap.size, 3, none⟩ = some (.slice a2 l2.length c2) ∧ W.cell? ⟨w.heap.size, 4, none⟩ = some (.slice a3 l3.length c3) ∧ W.cell? ⟨w.heap.size, 5, none⟩ = some (.slice a4 l4.length c4) ∧ W.cell? ⟨w.heap.size, 6, none⟩ = some (.slice a5 l5.length c5) ∧ W.cell? ⟨w.heap.size, 7, none⟩ = some (.int .i64 r) ∧ W.cell? ⟨w5.heap.size, 0, none⟩ = some (.string n1) ∧ W.cell? ⟨w5.heap.size, 1, none⟩ = some (.slice b1 m1 d1) ∧ W.cell? ⟨w5.heap.size, 2, none⟩ = some (.slice b2 m2 d2) ∧ W.cell? ⟨w5.heap.size, 3, none⟩ = some (.slice b3 m3 d3) ∧ W.cell? ⟨w5.heap.size, 4, none⟩ = some (.slice b4 m4 d4) ∧ W.cell? ⟨w5.heap.size, 5, none⟩ = some (.slice b5 m5 d5) ∧ W.cell? ⟨w5.heap.size, 6, none⟩ = some (.slice b6 m6 d6) ∧ W.cell? ⟨w5.heap.size, 7, none⟩ = some (.int .i64 r1)) (first | exact sN | go_keep) (first
                    | (have _g := K2.out; clear _g; go_at_call 9; refine (HSa.out _ (show Below x5.heap.size x5 _ from (by first | exact K2.out | exact K2.out.drew))).mono ?_; rintro e k3 ⟨rfl, hk3⟩; have K3 := Lib.hid (show Below x5.heap.size x5 k3 from Below.trans (show Below x5.heap.size x5 _ from (by first | exact K2.out | exact K2.out.drew)) (hk3.mono (Below.size (show Below x5.heap.size x5 _ from (by first | exact K2.out | exact K2.out.drew))))); have sN := (show k3.cell? ⟨w.heap.size, 0, none⟩ = some (.string (toB name)) ∧ k3.cell? ⟨w.heap.size, 1, none⟩ = some (.slice a0 l0.length c0) ∧ k3.cell? ⟨w.heap.size, 2, none⟩ = some (.slice a1 l1.length c1) ∧ k3.cell? ⟨w.heap.size, 3, none⟩ = some (.slice a2 l2.length c2) ∧ k3.cell? ⟨w.heap.size, 4, none⟩ = some (.slice a3 l3.length c3) ∧ k3.cell? ⟨w.heap.size, 5, none⟩ = some (.slice a4 l4.length c4) ∧ k3.cell? ⟨w.heap.size, 6, none⟩ = some (.slice a5 l5.length c5) ∧ k3.cell? ⟨w.heap.size, 7, none⟩ = some (.int .i64 r) ∧ k3.cell? ⟨w5.heap.size, 0, none⟩ = some (.string n1) ∧ k3.cell? ⟨w5.heap.size, 1, none⟩ = some (.slice b1 m1 d1) ∧ k3.cell? ⟨w5.heap.size, 2, none⟩ = some (.slice b2 m2 d2) ∧ k3.cell? ⟨w5.heap.size, 3, none⟩ = some (.slice b3 m3 d3) ∧ k3.cell? ⟨w5.heap.size, 4, none⟩ = some (.slice b4 m4 d4) ∧ k3.cell? ⟨w5.heap.size, 5, none⟩ = some (.slice b5 m5 d5) ∧ k3.cell? ⟨w5.heap.size, 6, none⟩ = some (.slice b6 m6 d6) ∧ k3.cell? ⟨w5.heap.size, 7, none⟩ = some (.int .i64 r1) from HKeep.out k3 K3.out); clear hk3)
                    | (have _g := K1.out; clear _g; go_at_call 10; refine (HPl2.out _ (show Below x5.heap.size x5 _ from (by first | exact K1.out | exact K1.out.drew))).mono ?_; rintro e k2 ⟨rfl, hk2⟩; have K2 := Lib.hid (show Below x5.heap.size x5 k2 from Below.trans (show Below x5.heap.size x5 _ from (by first | exact K1.out | exact K1.out.drew)) (hk2.mono (Below.size (show Below x5.heap.size x5 _ from (by first | exact K1.out | exact K1.out.drew))))); have sN := (show k2.cell? ⟨w.heap.size, 0, none⟩ = some (.string (toB name)) ∧ k2.cell? ⟨w.heap.size, 1, none⟩ = some (.slice a0 l0.length c0) ∧ k2.cell? ⟨w.heap.size, 2, none⟩ = some (.slice a1 l1.length c1) ∧ k2.cell? ⟨w.heap.size, 3, none⟩ = some (.slice a2 l2.length c2) ∧ k2.cell? ⟨w.heap.size, 4, none⟩ = some (.slice a3 l3.length c3) ∧ k2.cell? ⟨w.heap.size, 5, none⟩ = some (.slice a4 l4.length c4) ∧ k2.cell? ⟨w.heap.size, 6, none⟩ = some (.slice a5 l5.length c5) ∧ k2.cell? ⟨w.heap.size, 7, none⟩ = some (.int .i64 r) ∧ k2.cell? ⟨w5.heap.size, 0, none⟩ = some (.string n1) ∧ k2.cell? ⟨w5.heap.size, 1, none⟩ = some (.slice b1 m1 d1) ∧ k2.cell? ⟨w5.heap.size, 2, none⟩ = some (.slice b2 m2 d2) ∧ k2.cell? ⟨w5.heap.size, 3, none⟩ = some (.slice b3 m3 d3) ∧ k2.cell? ⟨w5.heap.size, 4, none⟩ = some (.slice b4 m4 d4) ∧ k2.cell? ⟨w5.heap.size, 5, none⟩ = some (.slice b5 m5 d5) ∧ k2.cell? ⟨w5.heap.size, 6, none⟩ = some (.slice b6 m6 d6) ∧ k2.cell? ⟨w5.heap.size, 7, none⟩ = some (.int .i64 r1) from HKeep.out k2 K2.out); clear hk2)
                    | (go_at_call 10; refine (HPl1.out _ (show Below x5.heap.size x5 _ from (by first | exact (Below.refl _ _) | exact (Below.refl _ _).drew))).mono ?_; rintro e k1 ⟨rfl, hk1⟩; have K1 := Lib.hid (show Below x5.heap.size x5 k1 from Below.trans (show Below x5.heap.size x5 _ from (by first | exact (Below.refl _ _) | exact (Below.refl _ _).drew)) (hk1.mono (Below.size (show Below x5.heap.size x5 _ from (by first | exact (Below.refl _ _) | exact (Below.refl _ _).drew))))); have sN := (show k1.cell? ⟨w.heap.size, 0, none⟩ = some (.string (toB name)) ∧ k1.cell? ⟨w.heap.size, 1, none⟩ = some (.slice a0 l0.length c0) ∧ k1.cell? ⟨w.heap.size, 2, none⟩ = some (.slice a1 l1.length c1) ∧ k1.cell? ⟨w.heap.size, 3, none⟩ = some (.slice a2 l2.length c2) ∧ k1.cell? ⟨w.heap.size, 4, none⟩ = some (.slice a3 l3.length c3) ∧ k1.cell? ⟨w.heap.size, 5, none⟩ = some (.slice a4 l4.length c4) ∧ k1.cell? ⟨w.heap.size, 6, none⟩ = some (.slice a5 l5.length c5) ∧ k1.cell? ⟨w.heap.size, 7, none⟩ = some (.int .i64 r) ∧ k1.cell? ⟨w5.heap.size, 0, none⟩ = some (.string n1) ∧ k1.cell? ⟨w5.heap.size, 1, none⟩ = some (.slice b1 m1 d1) ∧ k1.cell? ⟨w5.heap.size, 2, none⟩ = some (.slice b2 m2 d2) ∧ k1.cell? ⟨w5.heap.size, 3, none⟩ = some (.slice b3 m3 d3) ∧ k1.cell? ⟨w5.heap.size, 4, none⟩ = some (.slice b4 m4 d4) ∧ k1.cell? ⟨w5.heap.size, 5, none⟩ = some (.slice b5 m5 d5) ∧ k1.cell? ⟨w5.heap.size, 6, none⟩ = some (.slice b6 m6 d6) ∧ k1.cell? ⟨w5.heap.size, 7, none⟩ = some (.int .i64 r1) from HKeep.out k1 K1.out); clear hk1))
                  clear sN
                  go_wp2_with fail
                  go_ret
                  exact ⟨rfl, HX5.out.trans (K3.out.mono HX5.out.size)⟩
                · have he1 : (pe == 0) = false := by rw [beq_eq_false_iff_ne]; exact hpe0
                  have he2 : (pe != 0) = true := by rw [bne_iff_ne]; exact hpe0
                  clear hpe0
                  go_wp2_with fail
                  rw [← HXE.out]
                  have sN : x5.cell? ⟨w.heap.size, 0, none⟩ = some (.string (toB name)) ∧ x5.cell? ⟨w.heap.size, 1, none⟩ = some (.slice a0 l0.length c0) ∧ x5.cell? ⟨w.heap.size, 2, none⟩ = some (.slice a1 l1.length c1) ∧ x5.cell? ⟨w.heap.size, 3, none⟩ = some (.slice a2 l2.length c2) ∧ x5.cell? ⟨w.heap.size, 4, none⟩ = some (.slice a3 l3.length c3) ∧ x5.cell? ⟨w.heap.size, 5, none⟩ = some (.slice a4 l4.length c4) ∧ x5.cell? ⟨w.heap.size, 6, none⟩ = some (.slice a5 l5.length c5) ∧ x5.cell? ⟨w.heap.size, 7, none⟩ = some (.int .i64 r) ∧ x5.cell? ⟨w5.heap.size, 0, none⟩ = some (.string n1) ∧ x5.cell? ⟨w5.heap.size, 1, none⟩ = some (.slice b1 m1 d1) ∧ x5.cell? ⟨w5.heap.size, 2, none⟩ = some (.slice b2 m2 d2) ∧ x5.cell? ⟨w5.heap.size, 3, none⟩ = some (.slice b3 m3 d3) ∧ x5.cell? ⟨w5.heap.size, 4, none⟩ = some (.slice b4 m4 d4) ∧ x5.cell? ⟨w5.heap.size, 5, none⟩ = some (.slice b5 m5 d5) ∧ x5.cell? ⟨w5.heap.size, 6, none⟩ = some (.slice b6 m6 d6) ∧ x5.cell? ⟨w5.heap.size, 7, none⟩ = some (.int .i64 r1) := HKeep.out x5 (Below.refl _ _)
                  obtain ⟨p0, p1, p2, p3, p4, p5, p6, p7, q0, q1, q2, q3, q4, q5, q6, q7⟩ := sN
                  go_region
                  go_wp2_with fail
                  go_ret
                  exact ⟨rfl, HX5.out.drew⟩
              · obtain hpe0 := HPe.out rfl
                have HSa := Lib.hid (HSm2.out true rfl hpe0)
                clear HSm2
                subst hpe0
                go_wp2_with fail
                rw [← HXE.out]
                have sN : x5.cell? ⟨w.heap.size, 0, none⟩ = some (.string (toB name)) ∧ x5.cell? ⟨w.heap.size, 1, none⟩ = some (.slice a0 l0.length c0) ∧ x5.cell? ⟨w.heap.size, 2, none⟩ = some (.slice a1 l1.length c1) ∧ x5.cell? ⟨w.heap.size, 3, none⟩ = some (.slice a2 l2.length c2) ∧ x5.cell? ⟨w.heap.size, 4, none⟩ = some (.slice a3 l3.length c3) ∧ x5.cell? ⟨w.heap.size, 5, none⟩ = some (.slice a4 l4.length c4) ∧ x5.cell? ⟨w.heap.size, 6, none⟩ = some (.slice a5 l5.length c5) ∧ x5.cell? ⟨w.heap.size, 7, none⟩ = some (.int .i64 r) ∧ x5.cell? ⟨w5.heap.size, 0, none⟩ = some (.string n1) ∧ x5.cell? ⟨w5.heap.size, 1, none⟩ = some (.slice b1 m1 d1) ∧ x5.cell? ⟨w5.heap.size, 2, none⟩ = some (.slice b2 m2 d2) ∧ x5.cell? ⟨w5.heap.size, 3, none⟩ = some (.slice b3 m3 d3) ∧ x5.cell? ⟨w5.heap.size, 4, none⟩ = some (.slice b4 m4 d4) ∧ x5.cell? ⟨w5.heap.size, 5, none⟩ = some (.slice b5 m5 d5) ∧ x5.cell? ⟨w5.heap.size, 6, none⟩ = some (.slice b6 m6 d6) ∧ x5.cell? ⟨w5.heap.size, 7, none⟩ = some (.int .i64 r1) := HKeep.out x5 (Below.refl _ _)
                go_region_held3 (fun W : World => W.cell? ⟨w.heap.size, 0, none⟩ = some (.string (toB name)) ∧ W.cell? ⟨w.heap.size, 1, none⟩ = some (.slice a0 l0.length c0) ∧ W.cell? ⟨w.heap.size, 2, none⟩ = some (.slice a1 l1.length c1) ∧ W.cell? ⟨w.heap.size, 3, none⟩ = some (.slice a2 l2.length c2) ∧ W.cell? ⟨w.heap.size, 4, none⟩ = some (.slice a3 l3.length c3) ∧ W.cell? ⟨w.heap.size, 5, none⟩ = some (.slice a4 l4.length c4) ∧ W.cell? ⟨w.heap.size, 6, none⟩ = some (.slice a5 l5.length c5) ∧ W.cell? ⟨w.heap.size, 7, none⟩ = some (.int .i64 r) ∧ W.cell? ⟨w5.heap.size, 0, none⟩ = some (.string n1) ∧ W.cell? ⟨w5.heap.size, 1, none⟩ = some (.slice b1 m1 d1) ∧ W.cell? ⟨w5.heap.size, 2, none⟩ = some (.slice b2 m2 d2) ∧ W.cell? ⟨w5.heap.size, 3, none⟩ = some (.slice b3 m3 d3) ∧ W.cell? ⟨w5.heap.size, 4, none⟩ = some (.slice b4 m4 d4) ∧ W.cell? ⟨w5.heap.size, 5, none⟩ = some (.slice b5 m5 d5) ∧ W.cell? ⟨w5.heap.size, 6, none⟩ = some (.slice b6 m6 d6) ∧ W.cell? ⟨w5.heap.size, 7, none⟩ = some (.int .i64 r1)) (first | exact sN | go_keep) (first
                    | (have _g := K2.out; clear _g; go_at_call 9; refine (HSa.out _ (show Below x5.heap.size x5 _ from (by first | exact K2.out | exact K2.out.drew))).mono ?_; rintro e k3 ⟨rfl, hk3⟩; have K3 := Lib.hid (show Below x5.heap.size x5 k3 from Below.trans (show Below x5.heap.size x5 _ from (by first | exact K2.out | exact K2.out.drew)) (hk3.mono (Below.size (show Below x5.heap.size x5 _ from (by first | exact K2.out | exact K2.out.drew))))); have sN := (show k3.cell? ⟨w.heap.size, 0, none⟩ = some (.string (toB name)) ∧ k3.cell? ⟨w.heap.size, 1, none⟩ = some (.slice a0 l0.length c0) ∧ k3.cell? ⟨w.heap.size, 2, none⟩ = some (.slice a1 l1.length c1) ∧ k3.cell? ⟨w.heap.size, 3, none⟩ = some (.slice a2 l2.length c2) ∧ k3.cell? ⟨w.heap.size, 4, none⟩ = some (.slice a3 l3.length c3) ∧ k3.cell? ⟨w.heap.size, 5, none⟩ = some (.slice a4 l4.length c4) ∧ k3.cell? ⟨w.heap.size, 6, none⟩ = some (.slice a5 l5.length c5) ∧ k3.cell? ⟨w.heap.size, 7, none⟩ = some (.int .i64 r) ∧ k3.cell? ⟨w5.heap.size, 0, none⟩ = some (.string n1) ∧ k3.cell? ⟨w5.heap.size, 1, none⟩ = some (.slice b1 m1 d1) ∧ k3.cell? ⟨w5.heap.size, 2, none⟩ = some (.slice b2 m2 d2) ∧ k3.cell? ⟨w5.heap.size, 3, none⟩ = some (.slice b3 m3 d3) ∧ k3.cell? ⟨w5.heap.size, 4, none⟩ = some (.slice b4 m4 d4) ∧ k3.cell? ⟨w5.heap.size, 5, none⟩ = some (.slice b5 m5 d5) ∧ k3.cell? ⟨w5.heap.size, 6, none⟩ = some (.slice b6 m6 d6) ∧ k3.cell? ⟨w5.heap.size, 7, none⟩ = some (.int .i64 r1) from HKeep.out k3 K3.out); clear hk3)
                    | (have _g := K1.out; clear _g; go_at_call 10; refine (HPl2.out _ (show Below x5.heap.size x5 _ from (by first | exact K1.out | exact K1.out.drew))).mono ?_; rintro e k2 ⟨rfl, hk2⟩; have K2 := Lib.hid (show Below x5.heap.size x5 k2 from Below.trans (show Below x5.heap.size x5 _ from (by first | exact K1.out | exact K1.out.drew)) (hk2.mono (Below.size (show Below x5.heap.size x5 _ from (by first | exact K1.out | exact K1.out.drew))))); have sN := (show k2.cell? ⟨w.heap.size, 0, none⟩ = some (.string (toB name)) ∧ k2.cell? ⟨w.heap.size, 1, none⟩ = some (.slice a0 l0.length c0) ∧ k2.cell? ⟨w.heap.size, 2, none⟩ = some (.slice a1 l1.length c1) ∧ k2.cell? ⟨w.heap.size, 3, none⟩ = some (.slice a2 l2.length c2) ∧ k2.cell? ⟨w.heap.size, 4, none⟩ = some (.slice a3 l3.length c3) ∧ k2.cell? ⟨w.heap.size, 5, none⟩ = some (.slice a4 l4.length c4) ∧ k2.cell? ⟨w.heap.size, 6, none⟩ = some (.slice a5 l5.length c5) ∧ k2.cell? ⟨w.heap.size, 7, none⟩ = some (.int .i64 r) ∧ k2.cell? ⟨w5.heap.size, 0, none⟩ = some (.string n1) ∧ k2.cell? ⟨w5.heap.size, 1, none⟩ = some (.slice b1 m1 d1) ∧ k2.cell? ⟨w5.heap.size, 2, none⟩ = some (.slice b2 m2 d2) ∧ k2.cell? ⟨w5.heap.size, 3, none⟩ = some (.slice b3 m3 d3) ∧ k2.cell? ⟨w5.heap.size, 4, none⟩ = some (.slice b4 m4 d4) ∧ k2.cell? ⟨w5.heap.size, 5, none⟩ = some (.slice b5 m5 d5) ∧ k2.cell? ⟨w5.heap.size, 6, none⟩ = some (.slice b6 m6 d6) ∧ k2.cell? ⟨w5.heap.size, 7, none⟩ = some (.int .i64 r1) from HKeep.out k2 K2.out); clear hk2)
                    | (go_at_call 10; refine (HPl1.out _ (show Below x5.heap.size x5 _ from (by first | exact (Below.refl _ _) | exact (Below.refl _ _).drew))).mono ?_; rintro e k1 ⟨rfl, hk1⟩; have K1 := Lib.hid (show Below x5.heap.size x5 k1 from Below.trans (show Below x5.heap.size x5 _ from (by first | exact (Below.refl _ _) | exact (Below.refl _ _).drew)) (hk1.mono (Below.size (show Below x5.heap.size x5 _ from (by first | exact (Below.refl _ _) | exact (Below.refl _ _).drew))))); have sN := (show k1.cell? ⟨w.heap.size, 0, none⟩ = some (.string (toB name)) ∧ k1.cell? ⟨w.heap.size, 1, none⟩ = some (.slice a0 l0.length c0) ∧ k1.cell? ⟨w.heap.size, 2, none⟩ = some (.slice a1 l1.length c1) ∧ k1.cell? ⟨w.heap.size, 3, none⟩ = some (.slice a2 l2.length c2) ∧ k1.cell? ⟨w.heap.size, 4, none⟩ = some (.slice a3 l3.length c3) ∧ k1.cell? ⟨w.heap.size, 5, none⟩ = some (.slice a4 l4.length c4) ∧ k1.cell? ⟨w.heap.size, 6, none⟩ = some (.slice a5 l5.length c5) ∧ k1.cell? ⟨w.heap.size, 7, none⟩ = some (.int .i64 r) ∧ k1.cell? ⟨w5.heap.size, 0, none⟩ = some (.string n1) ∧ k1.cell? ⟨w5.heap.size, 1, none⟩ = some (.slice b1 m1 d1) ∧ k1.cell? ⟨w5.heap.size, 2, none⟩ = some (.slice b2 m2 d2) ∧ k1.cell? ⟨w5.heap.size, 3, none⟩ = some (.slice b3 m3 d3) ∧ k1.cell? ⟨w5.heap.size, 4, none⟩ = some (.slice b4 m4 d4) ∧ k1.cell? ⟨w5.heap.size, 5, none⟩ = some (.slice b5 m5 d5) ∧ k1.cell? ⟨w5.heap.size, 6, none⟩ = some (.slice b6 m6 d6) ∧ k1.cell? ⟨w5.heap.size, 7, none⟩ = some (.int .i64 r1) from HKeep.out k1 K1.out); clear hk1))
                clear sN
                go_wp2_with fail
                go_ret
                exact ⟨rfl, HX5.out.trans (K3.out.mono HX5.out.size)⟩
            · have g2 : r < -99 := by omega
              go_wp2_with fail
              go_ret
              exact ⟨rfl, HBr.out⟩
          · have g1 : (99 : Int) < r := by omega
            go_wp2_with fail
            go_ret
            exact ⟨rfl, HBr.out⟩
        · have gn : (60 : Int) < ((toB name).size : Int) := by omega
          go_wp2_with fail
          go_ret
          exact ⟨rfl, HBr.out⟩
end Go.Proofs.YtmnohaefklglfaaDoor
