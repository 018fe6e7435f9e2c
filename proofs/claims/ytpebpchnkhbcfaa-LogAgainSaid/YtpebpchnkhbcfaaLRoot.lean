/- The root as a sector, and what a sector is as a root. -/
import Derived.Test.YtpebpchnkhbcfaaLLay
namespace Go.Proofs.Ytpebpchnkhbcfaa
open Go.RowKit
set_option linter.unusedVariables false
set_option linter.unusedSimpArgs false

theorem ret_cell {P : Program} {fn : Func} {p : Tmp} {ty : TypeId} (h : fn.results = #[.cell p ty]) {tmps : Array Value} {w : World} {b : Nat} {cs : List Value} {d : TypeDesc} (hp : tmps.getD p undef = .pointer (some ⟨b, 0, none⟩))
    (hr : w.rangeAt b 0 cs) (ht : P.underlying ty = some d) (hd : d.isRow = true) (hi : (P.info? ty).map (·.size) = some cs.length) : (results fn tmps).run P w = .ok (.agg cs.toArray) w := by
  have e : (asAddr (.pointer (some ⟨b, 0, none⟩))).run P w = .ok ⟨b, 0, none⟩ w := rfl
  have hp' : tmps[p]?.getD undef = .pointer (some ⟨b, 0, none⟩) := by simpa using hp
  simp only [results, h]
  simp [Sem.run_bind, Result.andThen, hp', e, run_loadVar_mid w b 0 ty cs d hr ht hd hi]

/-- A sector in a box; a root in a box. -/
def rowSec (g : Nat) (s : List Value) : Rw := ⟨55, 64, .slice (some ⟨g, 0, none⟩) 1 1, 1, s⟩
def rowRoot (g : Nat) (a b : Int) : Rw := ⟨59, 2, .slice (some ⟨g, 0, none⟩) 1 1, 1, [.int .i64 a, .int .i64 b]⟩
theorem root_cells {W0 : Base} {w : World} {g : Nat} {a b : Int} {L : List Rw} (h : Own W0 w L) (hm : rowRoot g a b ∈ L) : w.cell? ⟨g, 0, none⟩ = some (.int .i64 a) ∧ w.cell? ⟨g, 1, none⟩ = some (.int .i64 b) := by
  have h1 := h.only hm
  exact ⟨Own.cell (h := h1) 0 (by decide), Own.cell (h := h1) 1 (by decide)⟩
theorem sec_cells {W0 : Base} {w : World} {g : Nat} {s : List Value} {L : List Rw} (h : Own W0 w L) (hm : rowSec g s ∈ L) (hs : s.length = 64) : w.rangeAt g 0 s ∧ w.there g 0 64 := by
  have h1 := h.only hm
  refine ⟨?_, Own.there (h := h1) 0 64 (by decide)⟩
  have := Own.range (h := h1) 0 64
  rw [List.drop_zero, ← hs, List.take_length] at this
  exact this
theorem Own.root {W0 : Base} {w : World} {L : List Rw} (h : Own W0 w L) (a b : Int) : Own W0 (w.alloc (.cells #[.int .i64 a, .int .i64 b] 59)) (rowRoot w.heap.size a b :: L) :=
  h.made 59 2 #[.int .i64 a, .int .i64 b] 1 rfl (by unfold maxLen; decide)
theorem Own.sec {W0 : Base} {w : World} {L : List Rw} (h : Own W0 w L) (s : List Value) (hs : s.length = 64) (H : Nat) (hH : H = w.heap.size) : Own W0 (w.alloc (.cells s.toArray 55)) (rowSec H s :: L) := by
  subst hH
  have := h.made 55 64 s.toArray 1 (by simp [hs]) (by unfold maxLen; decide)
  unfold rowSec
  rw [← hs]
  simpa [hs] using this
theorem le4_length (n : Int) : (le4 n).length = 4 := rfl
theorem rootB_fill (side used : Nat) : splice zSec 0 (bs ((rootR side used).take 27)) = bs (rootB side used) := by
  have h := flat_fill 64 (by decide) [zSec] (fun s hs => by rw [List.mem_singleton.1 hs]; rfl) 0 (by simp) (bs ((rootR side used).take 27)) (by rw [bs_length, List.length_take]; omega)
  simp only [List.flatten_cons, List.flatten_nil, List.append_nil, Nat.zero_mul, List.set_cons_zero, List.getElem_cons_zero] at h
  rw [h]
  have hl := rootR_length side used
  have ht : (rootR side used).take 27 = rootR side used := List.take_of_length_le (by omega)
  rw [ht]
  unfold rootB padTo
  rw [bs_append, bs_length, hl, zSec_bs]
  congr 1
theorem zero_root (w : World) : Sem.run Try.prog (zeroValue 59) w = .ok (.agg #[.int .i64 0, .int .i64 0]) w := by kernel_rfl
theorem info_root : (Try.prog.info? 59).map (·.size) = some 2 := by kernel_rfl

attribute [local go_sem ↓] Go.wp_at_zero Go.wp_at_succ
set_option maxHeartbeats 3200000 in
set_option maxRecDepth 100000 in
theorem sector_any (side used : Nat) (w : World) (hs : side ≤ 1) (hu : used ≤ 4096) :
    Calls Try.prog 36 #[.agg #[.int .i64 side, .int .i64 used]] w fun e w' => e = .returned (.agg (bs (rootB side used)).toArray) ∧ Below w.heap.size w w' := by
  have hzs := zero_sector
  have hO := (((Own.start w).root side used).sec zSec rfl (w.heap.size + 1) (by simp)).sec zSec rfl (w.heap.size + 1 + 1) (by simp)
  have HO := Lib.hid hO
  have Hm := Lib.hid (sizedL_byts (sb markS) (sb_byts _) (by rw [sb_length]; decide))
  have Hs := Lib.hid (le4_byts (side : Int) (by omega) (by omega))
  have Hu := Lib.hid (le4_byts (used : Int) (by omega) (by omega))
  have Hh := Lib.hid (rootH_byts side used hs hu)
  have hhl := rootH_length side used
  have Hhl := Lib.hid hhl
  have Hr := Lib.hid (rootR_byts side used hs hu)
  have hs4 : (side : Int) < 4294967296 := by omega
  have hu4 : (used : Int) < 4294967296 := by omega
  have hs0 : (0 : Int) ≤ (side : Int) := by omega
  have hu0 : (0 : Int) ≤ (used : Int) := by omega
  clear hO hhl
  go_enter Try.func36, Try.ntmps36
  go_wp2_with fail
  generalize ((w.alloc (.cells #[.int .i64 (side : Int), .int .i64 (used : Int)] 59)).alloc (.cells zSec.toArray 55)).alloc (.cells zSec.toArray 55) = w0 at *
  generalize w.heap.size = H at *
  obtain ⟨b0, b1⟩ := root_cells HO.out (g := H) (a := side) (b := used) (by simp)
  go_cut [4] (fun s wc => Own w wc [rowU s (rootH side used), rowSec (H + 1 + 1) zSec, rowSec (H + 1) zSec])
  case first =>
    have hlm : markS.size < 4294967296 := by decide
    go_region_with (first
      | (go_at_call 47; refine (text_any markS _ hlm).mono ?_; rintro e w3 ⟨v3, rfl, hO3⟩; obtain ⟨a3, k3, d3, rfl⟩ := hO3.form3; (first | have HO3 := Lib.hid (HO.out.join hO3) | have HO3 := Lib.hid (HO.out.drew.join hO3)); obtain ⟨c0, c1⟩ := root_cells HO3.out (g := H) (a := side) (b := used) (by simp); clear hO3)
      | (go_at_call_of 42 (Value.int .i64 (side : Int)); refine (num_any (side : Int) _ hs0 hs4).mono ?_; rintro e w4 ⟨v4, rfl, hO4⟩; obtain ⟨a4, k4, d4, rfl⟩ := hO4.form3; (first | have HO4 := Lib.hid (HO3.out.join hO4) | have HO4 := Lib.hid (HO3.out.drew.join hO4)); obtain ⟨e0, e1⟩ := root_cells HO4.out (g := H) (a := side) (b := used) (by simp); clear hO4)
      | (go_at_call_of 42 (Value.int .i64 (used : Int)); refine (num_any (used : Int) _ hu0 hu4).mono ?_; rintro e w5 ⟨v5, rfl, hO5⟩; obtain ⟨a5, k5, d5, rfl⟩ := hO5.form3; (first | have HO5 := Lib.hid (HO4.out.join hO5) | have HO5 := Lib.hid (HO4.out.drew.join hO5)); clear hO5)
      | (go_at_call 41; refine (pack3 _ _ ?_ _ _ _ (sizedL (sb markS)) (le4 side) (le4 used) ?_ ?_ ?_ ?_).mono ?_; (first | rfl | simp); exact (HO5.out.only (by simp)).by Hm.out; exact (HO5.out.only (by simp)).by Hs.out; exact (HO5.out.only (by simp)).by Hu.out; (rw [sizedL_length, sb_length, le4_length, le4_length]; decide); rintro e w6 ⟨v6, rfl, hO6⟩; have HO6 := Lib.hid ((HO5.out.alloc _).join hO6); clear hO6))
    all_goals (go_wp2_with fail; go_meet)
    all_goals exact HO6.out.of_mem (.cons_cons _ (.cons _ (.cons _ (.cons _ (.cons_cons _ (.cons_cons _ (.cons _ (List.Sublist.refl _))))))))
  case rest =>
    obtain ⟨a3, k3, c3, rfl⟩ := hcut.form3
    have HX := Lib.hid hcut
    have Hhy := Lib.hid ((hcut.only (List.mem_cons_self ..)).by Hh.out)
    clear hcut HO b0 b1
    have hcb := crcI_bounds (rootH side used)
    obtain ⟨hcb0, hcb1⟩ := hcb
    have Hcy := Lib.hid (le4_byts _ hcb0 hcb1)
    have hwr : IntKind.i64.wrap (crcI (rootH side used)) = crcI (rootH side used) := IntWalk.i64_in _ (by omega)
    have HR := Lib.hid (show rootH side used ++ (le4 (crcI (rootH side used)) ++ []) = rootR side used from rfl)
    have HL := Lib.hid (rootR_length side used)
    have HF := Lib.hid (rootB_fill side used)
    have Hl64 := Lib.hid (rootB_length side used)
    obtain ⟨RB, hRB⟩ : ∃ RB, rootB side used = RB := ⟨_, rfl⟩
    have HRB := Lib.hid hRB
    rw [hRB] at HF Hl64
    clear hRB
    generalize rootR side used = RR at *
    generalize rootH side used = RH at *
    obtain ⟨cr, hcr⟩ : ∃ cr, crcI RH = cr := ⟨_, rfl⟩
    have HC := Lib.hid hcr
    rw [hcr] at hwr hcb0 hcb1 Hcy HR
    clear hcr
    go_upto_region 3 with (fail)
    go_cut [] (fun wc => Own w wc [rowSec (H + 1 + 1) (bs RB), rowSec (H + 1) zSec])
    case first =>
      go_region_held3 (fun _ => True) (exact trivial) (first
        | (go_at_call 43; refine (sum_one _ _ (.slice a3 k3 c3) RH _ ?_ ?_).mono ?_; (repeat (first | exact cell_made _ _ _ _ (by simp) | refine cell_drew ?_ | refine cell_alloc ?_ _)); (repeat (first | exact Hhy.out | refine By.drew ?_ | refine By.alloc ?_ _)); rintro e w' ⟨rfl, rfl⟩; rw [HC.out])
        | (go_at_call 42; refine (num_any cr _ hcb0 hcb1).mono ?_; rintro e w4 ⟨v4, rfl, hO4⟩; obtain ⟨a4, k4, d4, rfl⟩ := hO4.form3; (first | have HO4 := Lib.hid ((HX.out.alloc _).drew.join hO4) | have HO4 := Lib.hid ((HX.out.drew.alloc _).join hO4) | have HO4 := Lib.hid ((HX.out.alloc _).join hO4)); clear hO4)
        | (go_at_call 41; refine (pack2 _ _ ?_ _ _ RH (le4 cr) ?_ ?_ ?_).mono ?_; (first | rfl | simp); exact (HO4.out.only (by simp)).by Hh.out; exact (HO4.out.only (by simp)).by Hcy.out; (rw [Hhl.out, le4_length]; decide); rintro e w5 ⟨v5, rfl, hO5⟩; rw [HR.out] at hO5; have HY := Lib.hid (hO5.by Hr.out); have HO5 := Lib.hid (((HO4.out.alloc _).join hO5).of_mem (.cons _ (.cons _ (.cons _ (List.Sublist.refl _))))); clear hO5)
        | (refine step_copy_into (by rfl) (.tmp 14) (.tmp 22) 30 (by rfl) 0 64 64 _ RR (by rfl) (by rfl) HO5.out 5 Try.underlying30 size_u HY.out 27 (by rw [HL.out]; rfl) (by decide) ?_; intro w6 hO6))
      all_goals (first | rw [HF.out] at hO6 | rw [← List.map_take, HF.out] at hO6)
      all_goals have HO6 := Lib.hid hO6
      all_goals clear hO6
      all_goals (go_wp2_with fail; go_meet; exact HO6.out.of_mem (.cons_cons _ (.cons_cons _ (List.nil_sublist _))))
    case rest =>
      have HO7 := Lib.hid hcut
      have hlb : (bs RB).length = 64 := by rw [bs_length]; exact Hl64.out
      obtain ⟨r1, _⟩ := sec_cells hcut (g := H + 1 + 1) (s := bs RB) (by simp) hlb
      obtain ⟨_, t2⟩ := sec_cells hcut (g := H + 1) (s := zSec) (by simp) rfl
      have hO8 := Own.setCells (h := hcut.swap) (bs RB) 0
      have hr8 : (wc.setCells (H + 1) 0 (bs RB)).rangeAt (H + 1) 0 (bs RB) := World.rangeAt_setCells_same _ _ _ _ (by rw [hlb]; exact t2)
      have his : (Try.prog.info? 55).map (·.size) = some (bs RB).length := by rw [hlb]; exact info_sector
      have HB8 := Lib.hid hO8.below
      have h1c := bs_one RB
      have Hlb := Lib.hid hlb
      clear hcut hO8 hlb
      obtain ⟨cs, hcs⟩ : ∃ cs, bs RB = cs := ⟨_, rfl⟩
      have HCS := Lib.hid hcs
      rw [hcs] at r1 hr8 his HB8 h1c Hlb
      clear hcs HO7
      have ht9 : wc.there (H + 1) 0 cs.toArray.size := by simpa [Hlb.out] using t2
      have hi9 : (Try.prog.info? 55).map (·.size) = some cs.toArray.size := by simpa using his
      go_wp2_with (first
        | (refine wpList_load_mid rfl 55 (.tmp 3) rfl (H + 1 + 1) 0 rfl cs _ r1 Try.underlying55 rfl his ?_)
        | (refine wpList_store_mid rfl 55 (.tmp 2) (.tmp 24) rfl (H + 1) 0 cs.toArray rfl rfl ht9 hi9 (all_oneCell_toArray h1c) ?_))
      refine bodyPost_ret (v := .agg cs.toArray) (ret_cell Try.results36 rfl hr8 Try.underlying55 rfl his) rfl ?_
      exact ⟨by rw [HRB.out, HCS.out], HB8.out⟩
end Go.Proofs.Ytpebpchnkhbcfaa
