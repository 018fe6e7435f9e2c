/- What a sector is as a root, and whether it is one. -/
import Derived.Test.YtpebpchnkhbcfaaLRew
import Derived.Deep.Slices
import Derived.Lib.SmallJoins
import Derived.WideShapes
import Derived.DeepKeys
namespace Go.Proofs.Ytpebpchnkhbcfaa
open Go.RowKit
set_option linter.unusedVariables false
set_option linter.unusedSimpArgs false

/-! ### Sectors are compared -/
def byteSec (s : List Value) : Prop := ∀ v ∈ s, ∃ n : Int, v = .int .u8 n ∧ (Lit.int .u8 n).wf = true
theorem byteSec_bs (l : List Int) (h : Byts l) : byteSec (bs l) := by
  intro v hv
  obtain ⟨z, hz, rfl⟩ := List.mem_map.1 hv
  have h1 : IntKind.u8.min = 0 := rfl
  have h2 : IntKind.u8.max = 255 := rfl
  have := h z hz
  exact ⟨z, rfl, by simp only [Lit.wf, Bool.and_eq_true, decide_eq_true_eq]; omega⟩
theorem keyT : Try.prog.keyTypeAt 2 55 = true := by kernel_rfl
theorem cellsS : Try.prog.cellsOf 55 = 64 := by kernel_rfl
theorem cellsB : Try.prog.cellsOf 5 = 1 := by kernel_rfl
theorem mapM_lits (s : List Value) (hs : byteSec s) (d : Nat) : ∀ n, n ≤ s.length → ((List.range n).mapM fun i => Try.prog.keyLits (d + 1) 5 ((s.drop (i * 1)).take 1)) = some ((List.range n).map fun i => [Lit.int .u8 (intOf (s.getD i undef))]) := by
  intro n hn
  refine Go.ChangeShapes.mapM_range_of n fun i hi => ?_
  have hi' : i < s.length := by omega
  obtain ⟨m, hm, hw⟩ := hs s[i] (List.getElem_mem _)
  have e : (s.drop (i * 1)).take 1 = [s[i]] := by
    rw [Nat.mul_one, List.drop_eq_getElem_cons hi']; rfl
  rw [e, hm]
  unfold Program.keyLits
  rw [Try.underlying5]
  simp only [hw, and_self, if_true, List.getD_eq_getElem?_getD, List.getElem?_eq_getElem hi', Option.getD_some, hm, intOf]
theorem flat_single {α β : Type} (f : α → β) : ∀ l : List α, (l.map fun i => [f i]).flatten = l.map f
  | [] => rfl
  | a :: l => by rw [List.map_cons, List.flatten_cons, flat_single f l]; rfl
theorem lits_of (s : List Value) (hs : byteSec s) (h64 : s.length = 64) : Try.prog.keyLits 2 55 s = some ((List.range 64).map fun i => Lit.int .u8 (intOf (s.getD i undef))) := by
  rw [← flat_single]
  unfold Program.keyLits
  rw [Try.underlying55]
  simp only [cellsS, h64, if_true]
  rw [cellsB, mapM_lits s hs 0 64 (by omega)]
  rfl
theorem eqSec (a b : List Int) (ha : Byts a) (hb : Byts b) (la : a.length = 64) (lb : b.length = 64) (w : World) : (Op.equalIn 10000 55 (.agg (bs a).toArray) (.agg (bs b).toArray)).run Try.prog w = .ok (decide (a = b)) w := by
  have hf : ∀ s : List Value, s.length = 64 → (Value.agg s.toArray).formed Try.prog 55 = true := by
    intro s h64
    unfold Value.formed
    rw [Try.underlying55]
    simp [cellsS, h64]
  have la' : (bs a).length = 64 := by rw [bs_length, la]
  have lb' : (bs b).length = 64 := by rw [bs_length, lb]
  obtain ⟨r, hr, hiff⟩ := run_equalIn_deep 9998 2 55 keyT w 2 2 _ _ _ _ (hf (bs a) la') (hf (bs b) lb') (by simpa [Value.cells] using lits_of (bs a) (byteSec_bs a ha) la') (by simpa [Value.cells] using lits_of (bs b) (byteSec_bs b hb) lb')
  have e : r = decide (a = b) := by
    rw [Bool.eq_iff_iff, hiff, decide_eq_true_iff]
    constructor
    · intro h
      apply List.ext_getElem (by omega)
      intro i h1 h2
      have := congrArg (fun l => l[i]?) h
      simp [la] at this
      have h64 : i < 64 := by omega
      simp [h64, h1, h2, bs, intOf] at this
      exact this
    · rintro rfl; rfl
  rw [e] at hr
  exact hr
theorem eqSec_ne (a b : List Int) (ha : Byts a) (hb : Byts b) (la : a.length = 64) (lb : b.length = 64) (he : a ≠ b) (w : World) : (Op.equalIn 10000 55 (.agg (bs a).toArray) (.agg (bs b).toArray)).run Try.prog w = .ok false w := by
  rw [eqSec a b ha hb la lb w, decide_eq_false he]

/-! ### A sector is taken apart -/
theorem Own.secBy {W0 : Base} {w : World} {g : Nat} {z : List Int} {L : List Rw} (h : Own W0 w L) (hm : rowSec g (bs z) ∈ L) (hl : z.length = 64) (hz : Byts z) : By w (.slice (some ⟨g, 0, none⟩) 64 64) z := by
  obtain ⟨r1, _⟩ := sec_cells h hm (by rw [bs_length, hl])
  refine ⟨?_, hz, _, 64, by rw [hl], by omega, by unfold maxLen; decide⟩
  rw [hl]
  refine .inr ⟨_, 64, rfl, fun j u hj => ?_, bs_one _⟩
  rw [Addr.add_mid]
  exact r1 j u hj
theorem rootOf_facts {W0 : Base} {wB : World} {H H6 r : Nat} {v v3 : Value} {z : List Int} {zv : List Value} {side used : Int} (hO : Own W0 wB (rowRoot H6 side used :: rowR r v false :: (rowU v3 z :: [rowRoot (H + 1) 0 0, rowSec H zv]))) (hzl : zv.length = 64) :
    okSec wB (.pointer (some ⟨H, 0, none⟩)) ∧ secOf wB (.pointer (some ⟨H, 0, none⟩)) = .agg zv.toArray ∧ wB.cell? ⟨H + 1, 0, none⟩ = some (.int .i64 0) ∧ wB.cell? ⟨H + 1, 1, none⟩ = some (.int .i64 0) ∧ wB.frozen? ⟨H + 1, 0, none⟩ = false ∧ wB.frozen? ⟨H + 1, 1, none⟩ = false ∧
    okSec ((wB.setCell ⟨H + 1, 0, none⟩ (.int .i64 side)).setCell ⟨H + 1, 1, none⟩ (.int .i64 used)) (.pointer (some ⟨H, 0, none⟩)) ∧ secOf ((wB.setCell ⟨H + 1, 0, none⟩ (.int .i64 side)).setCell ⟨H + 1, 1, none⟩ (.int .i64 used)) (.pointer (some ⟨H, 0, none⟩)) = .agg zv.toArray ∧
    ((wB.setCell ⟨H + 1, 0, none⟩ (.int .i64 side)).setCell ⟨H + 1, 1, none⟩ (.int .i64 used)).rangeAt (H + 1) 0 [.int .i64 side, .int .i64 used] ∧ Below W0.world.heap.size W0.world ((wB.setCell ⟨H + 1, 0, none⟩ (.int .i64 side)).setCell ⟨H + 1, 1, none⟩ (.int .i64 used)) := by
  obtain ⟨ra, _⟩ := sec_cells hO (g := H) (s := zv) (by simp) hzl
  obtain ⟨b0, b1⟩ := root_cells hO (g := H + 1) (a := 0) (b := 0) (by simp)
  have h1 := hO.only (show rowRoot (H + 1) 0 0 ∈ _ by simp)
  have hp : Own W0 wB (rowRoot (H + 1) 0 0 :: [rowSec H zv, rowRoot H6 side used, rowR r v false, rowU v3 z]) := hO.perm (by
    have h2 := List.perm_append_comm (l₁ := [rowRoot H6 side used, rowR r v false, rowU v3 z]) (l₂ := [rowRoot (H + 1) 0 0, rowSec H zv])
    exact h2)
  have hC : Own W0 ((wB.setCell ⟨H + 1, 0, none⟩ (.int .i64 side)).setCell ⟨H + 1, 1, none⟩ (.int .i64 used)) (rowRoot (H + 1) side used :: [rowSec H zv, rowRoot H6 side used, rowR r v false, rowU v3 z]) := Own.set (h := (Own.set (h := hp) 0 (.int .i64 side))) 1 (.int .i64 used)
  obtain ⟨rc, _⟩ := sec_cells hC (g := H) (s := zv) (by simp) hzl
  have hr : ((wB.setCell ⟨H + 1, 0, none⟩ (.int .i64 side)).setCell ⟨H + 1, 1, none⟩ (.int .i64 used)).rangeAt (H + 1) 0 [.int .i64 side, .int .i64 used] := by
    have := Own.range (h := hC) 0 2
    exact this
  exact ⟨(sec_is ra hzl).1, (sec_is ra hzl).2, b0, b1, Own.free (h := h1) 0, Own.free (h := h1) 1, (sec_is rc hzl).1, (sec_is rc hzl).2, hr, hC.below⟩
attribute [local go_sem ↓] wp_load_sec Go.wp_at_zero Go.wp_at_succ

set_option maxHeartbeats 3200000 in
set_option maxRecDepth 100000 in
theorem rootOf_any (z : List Int) (hz : Byts z) (hl : z.length = 64) (h1 : isSized z 11) (side used : Nat) (h2 : 4 ≤ (restOf z).length) (h2' : num4 (restOf z) = side) (h3 : 4 ≤ ((restOf z).drop 4).length) (h3' : num4 ((restOf z).drop 4) = used) (hs : side ≤ 1) (hu : used ≤ 4096) (w : World) :
    Calls Try.prog 22 #[.agg (bs z).toArray] w fun e w' => e = .returned (.tuple #[.agg #[.int .i64 side, .int .i64 used], .bool (decide (z = rootB side used))]) ∧ Below w.heap.size w w' := by
  have hzr := zero_root
  have hl' : (bs z).length = 64 := by rw [bs_length, hl]
  have hO := ((Own.start w).sec (bs z) hl' w.heap.size rfl).root 0 0
  have HO := Lib.hid (show Own w _ [rowRoot (w.heap.size + 1) 0 0, rowSec w.heap.size (bs z)] by simpa using hO)
  have Hz := Lib.hid hz
  have Hl := Lib.hid hl
  have Hl' := Lib.hid hl'
  have H1 := Lib.hid h1
  have H2 := Lib.hid (show 4 ≤ (restOf z).length ∧ num4 (restOf z) ≤ 1 from ⟨h2, by rw [h2']; omega⟩)
  have H2' := Lib.hid h2'
  have H3 := Lib.hid (show 4 ≤ ((restOf z).drop 4).length ∧ num4 ((restOf z).drop 4) ≤ 4096 from ⟨h3, by rw [h3']; omega⟩)
  have H3' := Lib.hid h3'
  have hEq := eqSec z (rootB side used) hz (rootB_byts side used hs hu) hl (rootB_length side used)
  have HEq := Lib.hid hEq
  have h64 : z.length ≤ 140737488355328 := by omega
  have H64 := Lib.hid h64
  clear hO hz hl hl' h1 h2 h2' h3 h3' hEq h64
  go_enter Try.func22, Try.ntmps22
  go_wp2_with fail
  refine (rread_any (.slice (some ⟨w.heap.size, 0, none⟩) 64 64) z _ (HO.out.secBy (by simp) Hl.out Hz.out) H64.out).mono ?_
  rintro e w3 ⟨r, v3, rfl, hO3, hp3⟩
  have HO3 := Lib.hid (HO.out.join hO3)
  have HP3 := Lib.hid (hp3.mono (fun x hx => by rw [List.mem_singleton.1 hx]; exact List.mem_cons_self ..) : Pc (rowU v3 z :: [rowRoot (w.heap.size + 1) 0 0, rowSec w.heap.size (bs z)]) v3 z)
  clear hO3 hp3 HO
  go_wp2_with fail
  refine (rtext_yes w w3 r v3 false _ z 11 HO3.out HP3.out H1.out).mono ?_
  rintro e w4 ⟨v4, rfl, hO4, hp4⟩
  have HO4 := Lib.hid hO4
  have HP4 := Lib.hid hp4
  clear hO4 hp4 HO3 HP3
  go_wp2_with fail
  refine (rnum_any w w4 r v4 false _ (restOf z) 1 HO4.out HP4.out H2.out).mono ?_
  rintro e w5 ⟨v5, rfl, hO5, hp5⟩
  rw [H2'.out]
  have HO5 := Lib.hid hO5
  have HP5 := Lib.hid hp5
  clear hO5 hp5 HO4 HP4
  go_wp2_with fail
  refine (rnum_any w w5 r v5 false _ ((restOf z).drop 4) 4096 HO5.out HP5.out H3.out).mono ?_
  rintro e w6 ⟨v6, rfl, hO6, hp6⟩
  rw [H3'.out]
  have HO6 := Lib.hid hO6
  clear hO6 hp6 HO5 HP5
  go_wp2_with fail
  have HOA := Lib.hid (HO6.out.root side used)
  have hEq := HEq.out
  have hzl := Hl'.out
  clear HO6
  generalize hH6 : w6.heap.size = H6 at *
  have HH6 := Lib.hid hH6
  clear hH6
  generalize w6.alloc (.cells #[.int .i64 (side : Int), .int .i64 (used : Int)] 59) = wA at *
  obtain ⟨H, hH⟩ : ∃ H, w.heap.size = H := ⟨_, rfl⟩
  rw [hH] at HOA ⊢
  obtain ⟨a0, a1⟩ := root_cells HOA.out (g := H6) (a := side) (b := used) (by simp)
  obtain ⟨ra, _⟩ := sec_cells HOA.out (g := H) (s := bs z) (by simp) hzl
  have qa1 := (sec_is (w := wA) ra hzl).1
  have qa2 := (sec_is (w := wA) ra hzl).2
  have qb1 : okSec wA.drew (.pointer (some ⟨H, 0, none⟩)) := (sec_is (w := wA.drew) ra hzl).1
  have qb2 : secOf wA.drew (.pointer (some ⟨H, 0, none⟩)) = .agg (bs z).toArray := (sec_is (w := wA.drew) ra hzl).2
  have HH := Lib.hid hH
  clear ra hH
  obtain ⟨zv, hzv⟩ : ∃ zv, bs z = zv := ⟨_, rfl⟩
  obtain ⟨rb, hrb⟩ : ∃ rb, bs (rootB side used) = rb := ⟨_, rfl⟩
  have HZV := Lib.hid hzv
  have HRB := Lib.hid hrb
  rw [hzv] at hEq qa2 qb2 hzl HOA ⊢
  rw [hrb] at hEq
  clear hzv hrb
  obtain ⟨dec, hdec⟩ : ∃ dec, decide (z = rootB side used) = dec := ⟨_, rfl⟩
  rw [hdec] at hEq
  have HD := Lib.hid hdec
  clear hdec HEq
  have hir : (Try.prog.info? 59).map (·.size) = some [Value.int .i64 (side : Int), .int .i64 (used : Int)].length := info_root
  go_region_with (first
    | (go_at_call 36; refine (sector_any side used _ hs hu).mono ?_; rintro e w7 ⟨rfl, hb7⟩; rw [HRB.out]; (first | have hO7 := HOA.out.later hb7 | have hO7 := HOA.out.drew.later hb7); obtain ⟨e1, e2⟩ := root_cells hO7 (g := H6) (a := side) (b := used) (by simp); obtain ⟨k1, k2, k3, k4, k5, k6, k7, k8, k9, k10⟩ := rootOf_facts hO7 hzl; clear hb7))
  all_goals have HB := Lib.hid k10
  all_goals clear k1 k2 k3 k4 k5 k6 k7 k8 k10 hO7
  all_goals go_wp2_with fail
  all_goals refine bodyPost_ret (v := .tuple #[.agg [Value.int .i64 (side : Int), .int .i64 (used : Int)].toArray, .bool dec]) (ret_cell_tmp Try.results22 rfl rfl k9 Try.underlying59 rfl hir) rfl ?_
  all_goals exact ⟨by rw [HD.out], HB.out⟩
end Go.Proofs.Ytpebpchnkhbcfaa
