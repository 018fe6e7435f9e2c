/- The document's example of jobs comes out true. -/
import Derived.Test.YtnjabanjgckeoaaJ5
namespace Go.Proofs.Ytnjabanjgckeoaa
open Go.RowKit
open Go.ChangeMaps (setBlock)
set_option linter.unusedVariables false
set_option linter.unusedSimpArgs false
set_option maxRecDepth 100000

theorem callP {w2 : World} {g : Nat} (hG : GAt w2 g usC [[98], [97], [99]]) : Calls Try.prog 7 #[.pointer (some ⟨g, 0, none⟩), .pointer (some ⟨g, 0, none⟩), .slice (some ⟨w2.heap.size, 0, none⟩) 3 3, .slice (some ⟨w2.heap.size + 1, 0, none⟩) 1 1] ((w2.alloc (.cells #[.string ⟨#[97]⟩, .string ⟨#[98]⟩, .string ⟨#[99]⟩] 9)).alloc (.cells #[.string ⟨#[98]⟩] 9)) fun e w' => ∃ v1 v2, e = .returned (.agg #[v1, v2]) ∧ Own w2 w' [rowSs v1 [[97], [98]], rowSs v2 [[98], [97]]] := by
  have O1 := (Own.start w2).made_at 9 1 #[.string ⟨#[97]⟩, .string ⟨#[98]⟩, .string ⟨#[99]⟩] 3 w2.heap.size rfl rfl (by unfold maxLen; decide)
  have O2 := O1.made_at 9 1 #[.string ⟨#[98]⟩] 1 (w2.heap.size + 1) (by simp) rfl (by unfold maxLen; decide)
  have s1 : Sts _ (.slice (some ⟨w2.heap.size, 0, none⟩) 3 3) [[97], [98], [99]] := O2.stsMem (ls := [[97], [98], [99]]) (List.mem_cons_of_mem _ (List.mem_cons_self ..))
  have s2 : Sts _ (.slice (some ⟨w2.heap.size + 1, 0, none⟩) 1 1) [[98]] := O2.stsMem (ls := [[98]]) (List.mem_cons_self ..)
  refine (restart_any (hG.later O2.below) (hG.later O2.below) s1 s2).mono ?_
  rintro e w' ⟨l, v1, v2, hp⟩
  obtain rfl := leanC hp.just
  exact ⟨v1, v2, hp.ret, keep2 (O2.join hp.own)⟩
theorem callQ {w4 : World} {g h : Nat} (hG : GAt w4 g usC [[98], [97], [99]]) (hH : GAt w4 h usD [[97], [98]]) : Calls Try.prog 7 #[.pointer (some ⟨g, 0, none⟩), .pointer (some ⟨h, 0, none⟩), .slice (some ⟨w4.heap.size, 0, none⟩) 2 2, .slice (some ⟨w4.heap.size + 1, 0, none⟩) 1 1] ((w4.alloc (.cells #[.string ⟨#[98]⟩, .string ⟨#[99]⟩] 9)).alloc (.cells #[.string ⟨#[98]⟩] 9)) fun e w' => ∃ v1 v2, e = .returned (.agg #[v1, v2]) ∧ Own w4 w' [rowSs v1 [[98]], rowSs v2 [[98]]] := by
  have O1 := (Own.start w4).made_at 9 1 #[.string ⟨#[98]⟩, .string ⟨#[99]⟩] 2 w4.heap.size rfl rfl (by unfold maxLen; decide)
  have O2 := O1.made_at 9 1 #[.string ⟨#[98]⟩] 1 (w4.heap.size + 1) (by simp) rfl (by unfold maxLen; decide)
  have s1 : Sts _ (.slice (some ⟨w4.heap.size, 0, none⟩) 2 2) [[98], [99]] := O2.stsMem (ls := [[98], [99]]) (List.mem_cons_of_mem _ (List.mem_cons_self ..))
  have s2 : Sts _ (.slice (some ⟨w4.heap.size + 1, 0, none⟩) 1 1) [[98]] := O2.stsMem (ls := [[98]]) (List.mem_cons_self ..)
  refine (restart_any (hG.later O2.below) (hH.later O2.below) s1 s2).mono ?_
  rintro e w' ⟨l, v1, v2, hp⟩
  obtain rfl := leanC hp.just
  exact ⟨v1, v2, hp.ret, keep2 (O2.join hp.own)⟩
theorem callR {w6 : World} {h : Nat} (hH : GAt w6 h usD [[97], [98]]) : Calls Try.prog 16 #[.pointer (some ⟨h, 0, none⟩), .slice (some ⟨w6.heap.size, 0, none⟩) 2 2] (w6.alloc (.cells #[.string ⟨#[99]⟩, .string ⟨#[97]⟩] 9)) fun e w' => ∃ gd cd, e = .returned (.slice (some ⟨gd, 0, none⟩) 1 cd) ∧ w'.cell? ⟨gd, 0, none⟩ = some (.string ⟨#[99]⟩) ∧ Below w6.heap.size w6 w' := by
  have O1 := (Own.start w6).made_at 9 1 #[.string ⟨#[99]⟩, .string ⟨#[97]⟩] 2 w6.heap.size rfl rfl (by unfold maxLen; decide)
  have s1 : Sts _ (.slice (some ⟨w6.heap.size, 0, none⟩) 2 2) [[99], [97]] := O1.stsMem (ls := [[99], [97]]) (List.mem_cons_self ..)
  refine (gone_any (hH.later O1.below) s1 (by decide)).mono ?_
  rintro e w' ⟨v', rfl, hO⟩
  rw [goneD] at hO
  obtain ⟨gd, cd, hv, _⟩ := Own.form (h := hO) (by decide)
  subst hv
  exact ⟨gd, cd, rfl, Own.str hO 0 (by decide), (O1.join hO).below⟩
theorem cell_kept {w w' : World} {p : Addr} {v : Value} (hb : Below w.heap.size w w') (h : w.cell? p = some v) : w'.cell? p = some v := (hb.cell (p := p) (World.block_lt_of_cell? w p h)).trans h
theorem row_of {W0 : Base} {w : World} {v : Value} {x : Nm} {r : List Nm} {L : List Rw} (h : Own W0 w (rowSs v (x :: r) :: L)) : ∃ g c, v = .slice (some ⟨g, 0, none⟩) (r.length + 1) c ∧ ∀ i (hi : i < (x :: r).length), w.cell? ⟨g, i, none⟩ = some (.string (toB (x :: r)[i])) := by
  obtain ⟨g, c, hv, _⟩ := Own.form (h := h) (by simp)
  have hv' : v = .slice (some ⟨g, 0, none⟩) (x :: r).length c := hv
  subst hv'
  exact ⟨g, c, rfl, fun i hi => Own.str h i hi⟩
set_option maxHeartbeats 8000000 in
theorem alive15_any (w : World) : Calls Try.prog 4 #[] w fun e w' => e = .returned (.bool true) ∧ Below w.heap.size w w' := by
  go_enter Try.func4, Try.ntmps4
  go_upto_region 2 with (go_at_call 6; refine (newC w).mono ?_; rintro e w1 ⟨g, nb, rfl, hG, hb1⟩; have HG := Lib.hid hG; have HB1 := Lib.hid hb1; clear hG hb1)
  go_upto_region 5 with (go_at_call 6; refine (newD w1).mono ?_; rintro e w2 ⟨h, nb2, rfl, hH, hb2⟩; have HH := Lib.hid hH; have HG2 := Lib.hid (HG.out.later hb2); have HB2 := Lib.hid (HB1.out.trans (hb2.mono HB1.out.size)); clear hb2 hH)
  have kp := callP HG2.out
  go_upto_region 6 with (first
    | (refine wpList_store_new rfl 31 (.tmp 7) (.tmp 46) rfl H3.out [_, _] w3.heap.size rfl rfl rfl rfl info_plan (plan_cells _ _ _ _ _ _ _ _ rfl rfl) ?_)
    | (go_at_call 7; refine kp.mono ?_; rintro e w3 ⟨v1, v2, rfl, hO⟩; obtain ⟨p1, pc1, rfl, hp1⟩ := row_of hO; obtain ⟨p2, pc2, rfl, hp2⟩ := row_of hO.tail; have H3 := Lib.hid hO; have HP1 := Lib.hid hp1; have HP2 := Lib.hid hp2; clear hO hp1 hp2))
  intro w4 hO4 _
  have d0 : w4.cell? ⟨w3.heap.size, 0, none⟩ = some (.slice (some ⟨p1, 0, none⟩) 2 pc1) := hO4.cell 0 (by decide)
  have d1 : w4.cell? ⟨w3.heap.size, 1, none⟩ = some (.slice (some ⟨p2, 0, none⟩) 2 pc2) := hO4.cell 1 (by decide)
  have d2 : w4.cell? ⟨p1, 0, none⟩ = some (.string ⟨#[97]⟩) := Own.str (ls := [[97], [98]]) hO4.tail 0 (by decide)
  have d3 : w4.cell? ⟨p1, 1, none⟩ = some (.string ⟨#[98]⟩) := Own.str (ls := [[97], [98]]) hO4.tail 1 (by decide)
  have d4 : w4.cell? ⟨p2, 0, none⟩ = some (.string ⟨#[98]⟩) := Own.str (ls := [[98], [97]]) hO4.tail.tail 0 (by decide)
  have HD := Lib.hid (And.intro d0 (And.intro d1 (And.intro d2 (And.intro d3 d4))))
  have HB4 := Lib.hid (HB2.out.trans (hO4.below.mono HB2.out.size))
  have HG4 := Lib.hid (HG2.out.later hO4.below)
  have HH4 := Lib.hid (HH.out.later hO4.below)
  have kq := callQ HG4.out HH4.out
  clear d0 d1 d2 d3 d4 hO4 kp HP1 HP2 H3
  generalize w3.heap.size = b7 at *
  go_upto_region 7 with (first
    | (refine wpList_store_new rfl 31 (.tmp 8) (.tmp 51) rfl H5.out [_, _] w5.heap.size rfl rfl rfl rfl info_plan (plan_cells _ _ _ _ _ _ _ _ rfl rfl) ?_)
    | (go_at_call 7; refine kq.mono ?_; rintro e w5 ⟨v1, v2, rfl, hO⟩; obtain ⟨q1, qc1, rfl, hq1⟩ := row_of hO; obtain ⟨q2, qc2, rfl, hq2⟩ := row_of hO.tail; have H5 := Lib.hid hO; clear hO hq1 hq2))
  intro w6 hO6 _
  have d0 : w6.cell? ⟨w5.heap.size, 0, none⟩ = some (.slice (some ⟨q1, 0, none⟩) 1 qc1) := hO6.cell 0 (by decide)
  have HE := Lib.hid d0
  have HB6 := Lib.hid (HB4.out.trans (hO6.below.mono HB4.out.size))
  have HB46 := Lib.hid hO6.below
  have kr := callR (HH4.out.later hO6.below)
  clear d0 hO6 kq H5
  generalize w5.heap.size = b8 at *
  go_upto_region 8 with (go_at_call 16; refine kr.mono ?_; rintro e w7 ⟨gd, cd, rfl, c9, hb7⟩; have HB7 := Lib.hid hb7; clear hb7)
  obtain ⟨d0, d1, d2, d3, d4⟩ := HD.out
  have HB47 := Lib.hid (HB46.out.trans (HB7.out.mono HB46.out.size))
  have f0 := cell_kept HB47.out d0
  have f1 := cell_kept HB47.out d1
  have f2 := cell_kept HB47.out d2
  have f3 := cell_kept HB47.out d3
  have f4 := cell_kept HB47.out d4
  have f5 := cell_kept HB7.out HE.out
  clear d0 d1 d2 d3 d4 kr
  go_wp2_with fail
  go_ret
  exact ⟨rfl, HB6.out.trans (HB7.out.mono HB6.out.size)⟩
end Go.Proofs.Ytnjabanjgckeoaa
