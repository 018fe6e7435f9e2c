/- Texts one behind the other, each in a section of its own: what calls make of memory, step by step. -/
import Derived.Test.YtnjabanjgckeoaaGreatDoorPackMgrRetries18
import Derived.LaidEqlPtr
import Derived.Laws.BitsLemmas
import Derived.Shelf.Vars

/- Law 16's example comes out true. -/
section
namespace Go.Proofs.YtnjabanjgckeoaaGreatDoor
open Go.RowKit
open Go.ChangeMaps (setBlock)
set_option linter.unusedVariables false
set_option linter.unusedSimpArgs false
set_option maxRecDepth 100000

theorem shortF_of {us : List GU} (hd : (namesU us).Nodup) (hb : ∀ u ∈ us, ∀ f ∈ u.fi, f.length ≤ 1000000) : ShortF us := fun n f hf => by
  by_cases hn : n ∈ namesU us
  · exact hb _ (findU_of hd hn).1 f hf
  · rw [findU_none hn] at hf; cases hf
theorem shortM : ShortF usM := shortF_of (by decide) (by decide)
abbrev W4 (w : World) : World := (((w.alloc (.cells #[.string ⟨#[47, 98, 105, 110, 47, 97]⟩] 9)).alloc (.cells #[.string ⟨#[98]⟩] 9)).alloc (.cells #[.string ⟨#[47, 98, 105, 110, 47, 98]⟩] 9)).alloc (.cells #[.string ⟨#[97]⟩, .slice (some ⟨w.heap.size, 0, none⟩) 1 1, .slice none 0 0, .slice none 0 0, .slice (some ⟨w.heap.size + 1, 0, none⟩) 1 1, .slice none 0 0, .slice none 0 0, .int .i64 0, .string ⟨#[98]⟩, .slice (some ⟨w.heap.size + 1 + 1, 0, none⟩) 1 1, .slice none 0 0, .slice none 0 0, .slice none 0 0, .slice none 0 0, .slice none 0 0, .int .i64 1] 64)
theorem argM (w : World) : UArg (W4 w) (.slice (some ⟨w.heap.size + 1 + 1 + 1, 0, none⟩) 2 2) usM ∧ Below w.heap.size w (W4 w) := by
  have O1 := (Own.start w).made_at 9 1 #[.string ⟨#[47, 98, 105, 110, 47, 97]⟩] 1 w.heap.size rfl rfl (by unfold maxLen; decide)
  have O2 := O1.made_at 9 1 #[.string ⟨#[98]⟩] 1 (w.heap.size + 1) (by simp) rfl (by unfold maxLen; decide)
  have O3 := O2.made_at 9 1 #[.string ⟨#[47, 98, 105, 110, 47, 98]⟩] 1 (w.heap.size + 1 + 1) (by simp) rfl (by unfold maxLen; decide)
  have O4 := O3.made_at 64 8 #[.string ⟨#[97]⟩, .slice (some ⟨w.heap.size, 0, none⟩) 1 1, .slice none 0 0, .slice none 0 0, .slice (some ⟨w.heap.size + 1, 0, none⟩) 1 1, .slice none 0 0, .slice none 0 0, .int .i64 0, .string ⟨#[98]⟩, .slice (some ⟨w.heap.size + 1 + 1, 0, none⟩) 1 1, .slice none 0 0, .slice none 0 0, .slice none 0 0, .slice none 0 0, .slice none 0 0, .int .i64 1] 2 (w.heap.size + 1 + 1 + 1) (by simp) rfl (by unfold maxLen; decide)
  refine ⟨uarg_of (xs := [⟨[97], .slice (some ⟨w.heap.size, 0, none⟩) 1 1, .slice none 0 0, .slice none 0 0, .slice (some ⟨w.heap.size + 1, 0, none⟩) 1 1, .slice none 0 0, .slice none 0 0, 0⟩, ⟨[98], .slice (some ⟨w.heap.size + 1 + 1, 0, none⟩) 1 1, .slice none 0 0, .slice none 0 0, .slice none 0 0, .slice none 0 0, .slice none 0 0, 1⟩]) O4 ?_ (fun x hx => by
    simp only [List.mem_cons, List.not_mem_nil, or_false] at hx
    rcases hx with rfl | rfl <;> (intro v hv; simp only [List.mem_cons, List.not_mem_nil, or_false] at hv; rcases hv with rfl | rfl | rfl | rfl | rfl | rfl <;> first | exact .inl rfl | exact .inr ⟨_, _, _, rfl⟩)), O4.below⟩
  have n0 := sts_nil (W4 w)
  have s1 : Sts (W4 w) (.slice (some ⟨w.heap.size, 0, none⟩) 1 1) [pMa] := sts_one O4 (List.mem_cons_of_mem _ (List.mem_cons_of_mem _ (List.mem_cons_of_mem _ (List.mem_cons_self ..))))
  have s2 : Sts (W4 w) (.slice (some ⟨w.heap.size + 1, 0, none⟩) 1 1) [[98]] := sts_one O4 (List.mem_cons_of_mem _ (List.mem_cons_of_mem _ (List.mem_cons_self ..)))
  have s3 : Sts (W4 w) (.slice (some ⟨w.heap.size + 1 + 1, 0, none⟩) 1 1) [pMb] := sts_one O4 (List.mem_cons_of_mem _ (List.mem_cons_self ..))
  exact .cons ⟨rfl, rfl, s1, n0, n0, s2, n0, n0⟩ (.cons ⟨rfl, rfl, s3, n0, n0, n0, n0, n0⟩ .nil)
theorem newGM {w0 w : World} {v mb tb gb N : Nat} {us : List GU} {ord : List Nm} {V : MV} (h : MgAt w0 v mb tb gb us ord N V w) : Calls Tryz.prog 19 #[.slice (some ⟨w.heap.size + 1 + 1 + 1, 0, none⟩) 2 2] (W4 w) fun e w' => ∃ g nb, e = .returned (.tuple #[.pointer (some ⟨g, 0, none⟩), .int .i64 0, .string nb]) ∧ MgPre w0 v mb tb g usM (ordU usM) N V w' := by
  obtain ⟨h1, h2⟩ := argM w
  refine (new_any2 h1 (by decide) (by decide) (fun u hu => bnd_small (by
    simp only [usM, List.mem_cons, List.not_mem_nil, or_false] at hu
    rcases hu with rfl | rfl <;> decide))).mono ?_
  rintro e w' ⟨gv, nm, rfl, _, _, hg, _⟩
  obtain ⟨g, S, L, rfl, hO, hgi⟩ := hg errM
  rw [errM]
  exact ⟨g, _, rfl, (h.later h2).graft hO hgi⟩
theorem in_at {w0 w : World} {v mb tb gb N : Nat} {us : List GU} {ord : List Nm} {V : MV} (h : MgAt w0 v mb tb gb us ord N V w) (hN : N ≤ 10000) {sv : Value} {zs : List Int} (hz : IntsAt w sv zs) :
    Calls Tryz.prog 44 #[.pointer (some ⟨mb, 0, none⟩), sv] w fun e w' => ∃ v', e = .returned v' ∧ Own w w' [rowSs v' (sortN (inV V zs))] := by
  obtain ⟨K, L0, X, Y, M, h, rfl, rfl, rfl, rfl, hg, hG⟩ := h
  have hf := hG.few
  have hl : (vw X Y M).mr.length = M.runs.length := by show (M.runs.map _).length = _; rw [List.length_map]
  have := in_in h (by omega) hz
  rw [selI_in X Y M] at this
  exact this
theorem ints1 (w : World) (x : Int) : IntsAt (w.alloc (.cells #[.int .i64 x] 3)) (.slice (some ⟨w.heap.size, 0, none⟩) 1 1) [x] :=
  ⟨w.heap.size, 0, 1, rfl, by show 1 ≤ 1000000; decide, fun j hj => by
    have hj' : j = 0 := by simpa using hj
    subst hj'
    exact cell_at (MapKept.heap_alloc w (.cells #[.int .i64 x] 3)).1 0⟩
theorem eq_graph (w : World) (g : Nat) : (binOp .eql 51 (.pointer (some ⟨g, 0, none⟩)) (.pointer (some ⟨g, 0, none⟩))).run Tryz.prog w = .ok (.bool true) w := by
  obtain ⟨j, hj⟩ : ∃ j, Tryz.prog.info? 133 = some j := Option.isSome_iff_exists.1 (by kernel_rfl)
  exact run_eql_ptr_same w (te := 133) _ (by kernel_rfl) hj
set_option maxHeartbeats 16000000 in
theorem alive16 (w : World) (hm : Mx w) : Calls Tryz.prog 17 #[] w fun e w' => e = .returned (.bool true) ∧ Below w.heap.size w w' := by
  have hop := open16 w hm
  have HM := Lib.hid hm
  clear hm
  go_enter Tryz.func17, Tryz.ntmps17
  go_wp2_with fail
  refine hop.mono ?_
  rintro e w1 ⟨v, mb, tb, g0, rfl, h1⟩
  have hnew := newGM h1
  clear hop h1
  go_wp2_with fail
  refine hnew.mono ?_
  rintro e w2 ⟨g, nb, rfl, h2⟩
  have k3 := set_at16 h2
  clear hnew h2
  go_wp2_with fail
  refine k3.mono ?_
  rintro e w3 ⟨rfl, h3⟩
  have k4 : Calls Tryz.prog 25 #[.pointer (some ⟨mb, 0, none⟩), .string ⟨#[97]⟩] w3 fun e w' => e = .returned (.int .i64 16) ∧ MgAt w v mb tb g usM (ordU usM) 2 VM w' := by
    have := start_at h3 HM.out (by decide) shortM [97] (by decide)
    rw [vm1] at this
    exact this
  clear k3 h3
  go_wp2_with fail
  refine k4.mono ?_
  rintro e w4 ⟨rfl, h4⟩
  have k5 : Calls Tryz.prog 25 #[.pointer (some ⟨mb, 0, none⟩), .string ⟨#[98]⟩] w4 fun e w' => e = .returned (.int .i64 0) ∧ MgAt w v mb tb g usM (ordU usM) 4 VM2 w' := by
    have := start_at h4 HM.out (by decide) shortM [98] (by decide)
    rw [vm2] at this
    exact this
  clear k4 h4
  go_wp2_with fail
  refine k5.mono ?_
  rintro e w5 ⟨rfl, h5⟩
  have k6 : Calls Tryz.prog 33 #[.pointer (some ⟨mb, 0, none⟩), .string ⟨#[98]⟩] w5 fun e w' => e = .returned (.int .i64 0) ∧ MgAt w v mb tb g usM (ordU usM) 6 VM3 w' := by
    have := fail_at h5 HM.out (by decide) shortM [98] (by decide)
    rw [vm3] at this
    exact this
  clear k5 h5
  go_wp2_with fail
  refine k6.mono ?_
  rintro e w6 ⟨rfl, h6⟩
  have k7 : Calls Tryz.prog 27 #[.pointer (some ⟨mb, 0, none⟩), .string ⟨#[98]⟩] w6 fun e w' => e = .returned (.int .i64 0) ∧ MgAt w v mb tb g usM (ordU usM) 8 VM4 w' := by
    have := ready_at h6 (by decide) [98] (by decide)
    rw [vm4] at this
    exact this
  clear k6 h6
  go_wp2_with fail
  refine k7.mono ?_
  rintro e w7 ⟨rfl, h7⟩
  have k8 : Calls Tryz.prog 25 #[.pointer (some ⟨mb, 0, none⟩), .string ⟨#[97]⟩] w7 fun e w' => e = .returned (.int .i64 0) ∧ MgAt w v mb tb g usM (ordU usM) 10 VM5 w' := by
    have := start_at h7 HM.out (by decide) shortM [97] (by decide)
    rw [vm5] at this
    exact this
  clear k7 h7
  go_wp2_with fail
  refine k8.mono ?_
  rintro e w8 ⟨rfl, h8⟩
  have k9 : Calls Tryz.prog 29 #[.pointer (some ⟨mb, 0, none⟩), .string ⟨#[98]⟩] w8 fun e w' => e = .returned (.int .i64 0) ∧ MgAt w v mb tb g usM (ordU usM) 12 VM6 w' := by
    have := stop_at h8 (by decide) [98] (by decide)
    rw [vm6] at this
    exact this
  clear k8 h8
  go_wp2_with fail
  refine k9.mono ?_
  rintro e w9 ⟨rfl, h9⟩
  have kp : Calls Tryz.prog 36 #[.pointer (some ⟨mb, 0, none⟩), .string ⟨#[98]⟩] w9 fun e w' => e = .returned (.int .i64 2) ∧ w9 = w' := by
    have := pid_at h9 [98]
    rw [vmp] at this
    exact this
  have k10 : Calls Tryz.prog 35 #[.pointer (some ⟨mb, 0, none⟩), .int .i64 2] w9 fun e w' => e = .returned (.int .i64 0) ∧ MgAt w v mb tb g usM (ordU usM) 14 VM7 w' := by
    have := mpick_at h9 (by decide) 2 (by decide)
    rw [vm7] at this
    exact this
  clear k9 h9
  go_wp2_with (first
    | (go_at_call 35; refine k10.mono ?_; rintro e w10 ⟨rfl, h10⟩; have H10 := Lib.hid h10; clear h10)
    | (go_at_call 36; refine kp.mono ?_; rintro e w11 ⟨rfl, rfl⟩))
  have kev : Calls Tryz.prog 40 #[.pointer (some ⟨mb, 0, none⟩)] w10 fun e w' => ∃ ge c, e = .returned (.slice (some ⟨ge, 0, none⟩) 6 c) ∧ MgAt w v mb tb g usM (ordU usM) 14 { VM7 with evs := [] } w' ∧ w'.cell? ⟨ge, 4, none⟩ = some (.int .i64 1) :=
    (events_at H10.out).mono fun e w' hh => by
      obtain ⟨a, c, h1, h2, h3⟩ := hh
      obtain ⟨ge, hae, ce, _⟩ := h3.out w' (Below.refl _ _) 2 (by decide)
      exact ⟨ge, c, by rw [h1, hae]; rfl, h2, ce⟩
  clear H10 k10 kp
  go_wp2_with fail
  refine kev.mono ?_
  rintro e w12 ⟨ge, c, rfl, h12, ce'⟩
  have ks1 : Calls Tryz.prog 39 #[.pointer (some ⟨mb, 0, none⟩), .string ⟨#[98]⟩] w12 fun e w' => e = .returned (.int .i64 0) ∧ w12 = w' := by
    have := state_at h12 [98]
    rw [show (ofV { VM7 with evs := [] } [98]).state = 0 from by rfl] at this
    exact this
  have ks2 : Calls Tryz.prog 39 #[.pointer (some ⟨mb, 0, none⟩), .string ⟨#[97]⟩] w12 fun e w' => e = .returned (.int .i64 1) ∧ w12 = w' := by
    have := state_at h12 [97]
    rw [show (ofV { VM7 with evs := [] } [97]).state = 1 from by rfl] at this
    exact this
  have kh : Calls Tryz.prog 43 #[.pointer (some ⟨mb, 0, none⟩), .string ⟨#[97]⟩] w12 fun e w' => ∃ a c, e = .returned (.slice a 1 c) ∧ Below w12.heap.size w12 w' := by
    refine (has_at h12 [97] (by decide)).mono fun e w' hh => ?_
    obtain ⟨v', h1, h2⟩ := hh
    obtain ⟨a, c, h3, _⟩ := Own.sized (h := (show Own w12 w' (⟨9, 1, v', 1, strs [pMa]⟩ :: []) from h2))
    exact ⟨a, c, by rw [h1, h3], h2.below⟩
  have KI := Lib.hid (fun (W : World) (hb : Below w12.heap.size w12 W) => (show Calls Tryz.prog 44 #[.pointer (some ⟨mb, 0, none⟩), .slice (some ⟨W.heap.size, 0, none⟩) 1 1] (W.alloc (.cells #[.int .i64 1] 3)) fun e w' => ∃ a c, e = .returned (.slice a 1 c) ∧ Below w12.heap.size w12 w' from by
    have hb2 : Below w12.heap.size w12 (W.alloc (.cells #[.int .i64 1] 3)) := hb.alloc hb.size _
    refine (in_at (h12.later hb2) (by decide) (ints1 W 1)).mono fun e w' hh => ?_
    obtain ⟨v', h1, h2⟩ := hh
    obtain ⟨a, c, h3, _⟩ := Own.sized (h := (show Own _ w' (⟨9, 1, v', 1, strs [[97]]⟩ :: []) from h2))
    exact ⟨a, c, by rw [h1, h3], hb2.trans (h2.below.mono hb2.size)⟩))
  have KG := Lib.hid (fun (W : World) (hb : Below w12.heap.size w12 W) => graph_at (h12.later hb))
  have HB := Lib.hid h12.below
  clear kev h12
  go_wp2_with fail
  refine ks1.mono ?_
  rintro e w16 ⟨rfl, rfl⟩
  clear ks1
  go_wp2_with fail
  refine ks2.mono ?_
  rintro e w17 ⟨rfl, rfl⟩
  clear ks2
  go_wp2_with fail
  refine kh.mono ?_
  rintro e w13 ⟨a13, c13, rfl, hb13⟩
  have kI := KI.out w13 hb13
  clear kh hb13
  go_wp2_with fail
  refine kI.mono ?_
  rintro e w14 ⟨a14, c14, rfl, hb14⟩
  have kG := KG.out w14 hb14
  have HB14 := Lib.hid hb14
  clear kI hb14
  go_wp2_with fail
  refine kG.mono ?_
  rintro e w15 ⟨rfl, rfl⟩
  have hgg := eq_graph w14 g
  clear kG
  go_wp2_with fail
  go_ret
  exact ⟨rfl, HB.out.trans (HB14.out.mono HB.out.size)⟩
end Go.Proofs.YtnjabanjgckeoaaGreatDoor
end

/- MgrRetries, plain: what each act makes of the one unit. -/
section
namespace Go.Proofs.YtnjabanjgckeoaaGreatDoor
open Go.RowKit
set_option linter.unusedVariables false
set_option linter.unusedSimpArgs false
set_option maxRecDepth 100000

def uR (r : Int) : GU := ⟨[97], [pMa], [], [], [], [], [], r⟩
def usR (r : Int) : List GU := [uR r]
theorem errR (r : Int) : errU (usR r) = 0 := by rfl
theorem shortR (r : Int) : ShortF (usR r) := shortF_of (by show ([[97]] : List Nm).Nodup; decide) (fun u hu => by
  rcases List.mem_singleton.1 hu with rfl
  intro f hf
  rcases List.mem_singleton.1 hf with rfl
  decide)
/-- Nothing runs, and the unit is off, or failed. -/
def mrR (b : Bool) : List (Nm × RV) := if b then [([97], ⟨4, 0, 0, []⟩)] else []
def VF (b : Bool) (last : Int) (evs : List (Int × Nm)) : MV := ⟨EM, [], last, [], mrR b, evs⟩
/-- Its start was tried again j times. -/
def VS (last j : Int) (evs : List (Int × Nm)) : MV := ⟨EM, [(3, 1)], last, [(last, (toB [97], [3], false))], [([97], ⟨1, last, j, [pMa]⟩)], evs⟩
def VO (last j : Int) (evs : List (Int × Nm)) : MV := ⟨EM, [(3, 1)], last, [(last, (toB [97], [3], false))], [([97], ⟨2, last, j, [pMa]⟩)], evs⟩
theorem startR (r : Int) (b : Bool) (last : Int) (evs : List (Int × Nm)) : startV (usR r) (VF b last evs) [97] = (0, VS (last + 1) 0 (evs ++ [(0, [97])])) := by
  cases b <;> rfl
theorem ofS (last j : Int) (evs : List (Int × Nm)) : ofV (VS last j evs) [97] = ⟨1, last, j, [pMa]⟩ := by rfl
theorem ofO (last j : Int) (evs : List (Int × Nm)) : ofV (VO last j evs) [97] = ⟨2, last, j, [pMa]⟩ := by rfl
theorem ofF (last : Int) (evs : List (Int × Nm)) : ofV (VF true last evs) [97] = ⟨4, 0, 0, []⟩ := by rfl
theorem exitS (last j : Int) (evs : List (Int × Nm)) : exitV (VS last j evs) last = ⟨EM, [], last, [], [([97], ⟨1, last, j, [pMa]⟩)], evs⟩ := by
  unfold exitV
  have e : look (VS last j evs).runs last = some (toB [97], [3], false) := by
    show look [(last, (toB [97], [3], false))] last = _
    unfold look
    rw [if_pos rfl]
  have d : del (VS last j evs).runs last = [] := by
    show del [(last, (toB [97], [3], false))] last = _
    unfold del
    rw [if_pos rfl]
  rw [e]
  show (⟨_, _, _, del (VS last j evs).runs last, _, _⟩ : MV) = _
  rw [d]
  rfl
theorem exitO (last j : Int) (evs : List (Int × Nm)) : exitV (VO last j evs) last = ⟨EM, [], last, [], [([97], ⟨2, last, j, [pMa]⟩)], evs⟩ := by
  unfold exitV
  have e : look (VO last j evs).runs last = some (toB [97], [3], false) := by
    show look [(last, (toB [97], [3], false))] last = _
    unfold look
    rw [if_pos rfl]
  have d : del (VO last j evs).runs last = [] := by
    show del [(last, (toB [97], [3], false))] last = _
    unfold del
    rw [if_pos rfl]
  rw [e]
  show (⟨_, _, _, del (VO last j evs).runs last, _, _⟩ : MV) = _
  rw [d]
  rfl
theorem failR_again (r : Int) (last j : Int) (evs : List (Int × Nm)) (hl : last ≠ 0) (hj : j < r) : failV (usR r) (VS last j evs) [97] = (0, VS (last + 1) (j + 1) (evs ++ [(0, [97])])) := by
  rw [failV_end _ _ _ (by rw [ofS]; exact hl), ofS]
  dsimp only
  rw [exitS]
  unfold endV
  rw [if_neg (by decide), if_pos ⟨rfl, by show ([97] : Nm) ∈ [[97]]; decide, hj, by rfl⟩]
  rfl
theorem failR_last (r : Int) (last j : Int) (evs : List (Int × Nm)) (hl : last ≠ 0) (hj : ¬ j < r) : failV (usR r) (VS last j evs) [97] = (0, VF true last (evs ++ [(4, [97])])) := by
  rw [failV_end _ _ _ (by rw [ofS]; exact hl), ofS]
  dsimp only
  rw [exitS]
  unfold endV
  rw [if_neg (by decide), if_neg (fun h => hj h.2.2.1)]
  rfl
theorem failR_none (r : Int) (last : Int) (evs : List (Int × Nm)) : failV (usR r) (VF true last evs) [97] = (20, VF true last evs) := by rfl
theorem readyR (last j : Int) (evs : List (Int × Nm)) : readyV (VS last j evs) [97] = (0, VO last j (evs ++ [(1, [97])])) := by rfl
theorem failR_on (r : Int) (last j : Int) (evs : List (Int × Nm)) (hl : last ≠ 0) : failV (usR r) (VO last j evs) [97] = (0, VF true last (evs ++ [(4, [97])])) := by
  rw [failV_end _ _ _ (by rw [ofO]; exact hl), ofO]
  dsimp only
  rw [exitO]
  unfold endV
  rw [if_neg (by decide), if_neg (fun h => absurd h.1 (by decide))]
  rfl
theorem stopR (last : Int) (evs : List (Int × Nm)) : stopV (VF true last evs) [97] = (0, VF false last (evs ++ [(3, [97])])) := by rfl
/-- How often a start was issued. -/
def cntI (l : List (Int × Nm)) : Nat := (l.filter fun e => e.1 == 0).length
theorem cntI_0 (l : List (Int × Nm)) (n : Nm) : cntI (l ++ [(0, n)]) = cntI l + 1 := by
  unfold cntI
  rw [List.filter_append, List.length_append]
  rfl
theorem cntI_4 (l : List (Int × Nm)) (n : Nm) : cntI (l ++ [(4, n)]) = cntI l := by
  unfold cntI
  rw [List.filter_append, List.length_append]
  rfl
theorem cntI_take (l : List (Int × Nm)) (k : Nat) (hk : k < l.length) : cntI (l.take (k + 1)) = cntI (l.take k) + if l[k].1 == 0 then 1 else 0 := by
  unfold cntI
  rw [List.take_succ_eq_append_getElem hk, List.filter_append, List.length_append]
  congr 1
  cases h : l[k].1 == 0 with
  | true => rw [List.filter_cons, h]; rfl
  | false => rw [List.filter_cons, h]; rfl
end Go.Proofs.YtnjabanjgckeoaaGreatDoor
end

/- MgrRetries: the walk. -/
section
namespace Go.Proofs.YtnjabanjgckeoaaGreatDoor
open Go.RowKit
open Go.ChangeMaps (setBlock)
set_option linter.unusedVariables false
set_option linter.unusedSimpArgs false
set_option maxRecDepth 100000

theorem and3 (n : Int) : bits .and .i64 n 3 = n % 4 := by
  have h3 : (BitVec.ofInt 64 3).toNat = 2 ^ 2 - 1 := by decide
  have key : (BitVec.ofInt 64 n &&& BitVec.ofInt 64 3).toNat = (n % ((2 ^ 64 : Nat) : Int)).toNat % 2 ^ 2 := by
    rw [BitVec.toNat_and, BitVec.toNat_ofInt, h3, Nat.and_two_pow_sub_one_eq_mod]
  show IntKind.i64.wrap ((BitVec.ofInt 64 n &&& BitVec.ofInt 64 3).toNat : Nat) = n % 4
  rw [key, IntKind.wrap_i64]
  omega
theorem and3_nat (n : Int) : ∃ r : Nat, bits .and .i64 n 3 = (r : Int) ∧ r ≤ 3 := ⟨(n % 4).toNat, by rw [and3]; omega, by omega⟩
abbrev W2 (w : World) (r : Int) : World := (w.alloc (.cells #[.string ⟨#[47, 98, 105, 110, 47, 97]⟩] 9)).alloc (.cells #[.string ⟨#[97]⟩, .slice (some ⟨w.heap.size, 0, none⟩) 1 1, .slice none 0 0, .slice none 0 0, .slice none 0 0, .slice none 0 0, .slice none 0 0, .int .i64 r] 64)
theorem newR (w : World) (r : Int) : Calls Tryz.prog 19 #[.slice (some ⟨w.heap.size + 1, 0, none⟩) 1 1] (W2 w r) fun e w' => ∃ g nb, e = .returned (.tuple #[.pointer (some ⟨g, 0, none⟩), .int .i64 0, .string nb]) ∧ GAt w' g (usR r) (ordU (usR r)) ∧ Below w.heap.size w w' := by
  have O1 := (Own.start w).made_at 9 1 #[.string ⟨#[47, 98, 105, 110, 47, 97]⟩] 1 w.heap.size rfl rfl (by unfold maxLen; decide)
  have O2 := O1.made_at 64 8 #[.string ⟨#[97]⟩, .slice (some ⟨w.heap.size, 0, none⟩) 1 1, .slice none 0 0, .slice none 0 0, .slice none 0 0, .slice none 0 0, .slice none 0 0, .int .i64 r] 1 (w.heap.size + 1) (by simp) rfl (by unfold maxLen; decide)
  have n0 := sts_nil (W2 w r)
  have s1 : Sts (W2 w r) (.slice (some ⟨w.heap.size, 0, none⟩) 1 1) [pMa] := sts_one O2 (List.mem_cons_of_mem _ (List.mem_cons_self ..))
  have hU : UArg (W2 w r) (.slice (some ⟨w.heap.size + 1, 0, none⟩) 1 1) (usR r) := uarg_of (xs := [⟨[97], .slice (some ⟨w.heap.size, 0, none⟩) 1 1, .slice none 0 0, .slice none 0 0, .slice none 0 0, .slice none 0 0, .slice none 0 0, r⟩]) O2 (.cons ⟨rfl, rfl, s1, n0, n0, n0, n0, n0⟩ .nil) (fun x hx => by
    rcases List.mem_singleton.1 hx with rfl
    intro v hv
    simp only [List.mem_cons, List.not_mem_nil, or_false] at hv
    rcases hv with rfl | rfl | rfl | rfl | rfl | rfl <;> first | exact .inl rfl | exact .inr ⟨_, _, _, rfl⟩)
  refine (new_ok hU (by show 1 ≤ 1000000; decide) (by show ∀ n ∈ ([[97]] : List Nm), n.length ≤ 1000000; decide) (fun u hu => bnd_small (by
    rcases List.mem_singleton.1 hu with rfl
    exact ⟨by show 1 ≤ 100; decide, by show 0 ≤ 100; decide, by show 0 ≤ 100; decide, by show 0 ≤ 100; decide, by show 0 ≤ 100; decide, by show 0 ≤ 100; decide⟩)) (errR r)).mono ?_
  rintro e w' ⟨g, nb, rfl, hG, hb⟩
  exact ⟨g, nb, rfl, hG, O2.below.trans (hb.mono O2.below.size)⟩
def OutR (w2 : World) (v mb tb g r c : Nat) (s : Value) (wr : World) : Prop := ∃ (k : Nat) (b : Bool) (last : Int) (evs : List (Int × Nm)), k ≤ 1 + c ∧ s = .int .i64 k ∧ MgAt w2 v mb tb g (usR r) (ordU (usR r)) (12 * k) (VF b last evs) wr ∧ 0 ≤ last ∧ cntI evs = k * (1 + r)
def InR (w2 : World) (v mb tb g r k : Nat) (s : Value) (wr : World) : Prop := ∃ (j : Nat) (last : Int) (evs : List (Int × Nm)), j ≤ r ∧ s = .int .i64 j ∧ MgAt w2 v mb tb g (usR r) (ordU (usR r)) (12 * k + 2 + 2 * j) (VS last j evs) wr ∧ 1 ≤ last ∧ cntI evs = k * (1 + r) + 1 + j
set_option maxHeartbeats 16000000 in
theorem retries_law (w : World) (hm : Mx w) (retry runs : Int) :
    Calls Tryz.prog 5 #[.int .i64 retry, .int .i64 runs] w fun e w' => e = .returned (.bool true) ∧ Below w.heap.size w w' := by
  have hal := alive16 w hm
  have HM := Lib.hid hm
  obtain ⟨r, hr, hr3⟩ := and3_nat retry
  obtain ⟨c, hc, hc3⟩ := and3_nat runs
  have hwc : IntKind.i64.wrap (1 + (c : Int)) = 1 + c := IntWalk.i64_in _ (by omega)
  have HR3 := Lib.hid hr3
  have HC3 := Lib.hid hc3
  clear hm hr3 hc3
  go_enter Tryz.func5, Tryz.ntmps5
  go_wp2_with fail
  refine hal.mono ?_
  rintro e w1 ⟨rfl, hb1⟩
  have hnew := newR w1 r
  have HB1 := Lib.hid hb1
  clear hal hb1
  go_wp2_with fail
  refine hnew.mono ?_
  rintro e w2 ⟨g, nb, rfl, hG, hb2⟩
  have hb12 := HB1.out.trans (hb2.mono HB1.out.size)
  have hop := open16 w2 (HM.out.later hb12)
  have HB2 := Lib.hid hb12
  have HG := Lib.hid hG
  clear hnew hb2 hb12 hG
  go_wp2_with fail
  refine hop.mono ?_
  rintro e w3 ⟨v, mb, tb, g0, rfl, h3⟩
  have hset := set_at16 (h3.pre HG.out)
  clear hop h3
  go_wp2_with fail
  refine hset.mono ?_
  rintro e w4 ⟨rfl, h4⟩
  have H4 := Lib.hid (show OutR w2 v mb tb g r c (.int .i64 0) w4 from ⟨0, false, 0, [], Nat.zero_le _, rfl, h4, Int.le_refl 0, by simp [cntI]⟩)
  clear hset h4
  go_wp2_with fail
  go_loopw [42] (fun s42 wr => OutR w2 v mb tb g r c s42 wr) (fun s42 _ => 1 + c - (intOf s42).toNat)
  case atStart => exact H4.out
  case round =>
    obtain ⟨k, b, last, evs, hk, rfl, hV, hl0, hcnt⟩ := hrel
    by_cases hlt : k < 1 + c
    · have hki : (k : Int) < 1 + (c : Int) := by omega
      have HC3' := HC3.out
      have HR3' := HR3.out
      have hkb : (k : Int) ≤ 100 := by omega
      have hst : Calls Tryz.prog 25 #[.pointer (some ⟨mb, 0, none⟩), .string ⟨#[97]⟩] wr fun e w' => e = .returned (.int .i64 0) ∧ MgAt w2 v mb tb g (usR r) (ordU (usR r)) (12 * k + 2) (VS (last + 1) 0 (evs ++ [(0, [97])])) w' := by
        have := start_at hV (HM.out.later HB2.out) (by omega) (shortR r) [97] (by decide)
        rw [startR] at this
        exact this
      have HK := Lib.hid (show k < 1 + c ∧ 0 ≤ last ∧ cntI (evs ++ [(0, [97])]) = k * (1 + r) + 1 from ⟨hlt, hl0, by rw [cntI_0, hcnt]⟩)
      clear hV hl0 hcnt hlt hk HC3' HR3'
      go_wp2_with fail
      refine hst.mono ?_
      rintro e w5 ⟨rfl, h5⟩
      have H5 := Lib.hid (show InR w2 v mb tb g r k (.int .i64 0) w5 from ⟨0, last + 1, _, Nat.zero_le _, rfl, h5, by have := HK.out.2.1; omega, by rw [HK.out.2.2]⟩)
      clear hst h5
      go_wp2_with fail
      go_loopw [48] (fun s48 wq => InR w2 v mb tb g r k s48 wq) (fun s48 _ => r - (intOf s48).toNat)
      case atStart => exact H5.out
      case round =>
        obtain ⟨j, la, ev, hj, rfl, hV, hl1, hcn⟩ := hrel
        have HR3' := HR3.out
        have HC3' := HC3.out
        have HK' := HK.out.1
        by_cases hjr : j < r
        · have hji : (j : Int) < (r : Int) := by omega
          have hjb : (j : Int) ≤ 100 := by omega
          have hfl : Calls Tryz.prog 33 #[.pointer (some ⟨mb, 0, none⟩), .string ⟨#[97]⟩] wr fun e w' => e = .returned (.int .i64 0) ∧ MgAt w2 v mb tb g (usR r) (ordU (usR r)) (12 * k + 2 + 2 * (j + 1)) (VS (la + 1) ((j + 1 : Nat) : Int) (ev ++ [(0, [97])])) w' := by
            have := fail_at hV (HM.out.later HB2.out) (by omega) (shortR r) [97] (by decide)
            rw [failR_again r la j ev (by omega) (by exact_mod_cast hjr)] at this
            exact this
          have HN := Lib.hid (show j + 1 ≤ r ∧ 1 ≤ la + 1 ∧ cntI (ev ++ [(0, [97])]) = k * (1 + r) + 1 + (j + 1) from ⟨by omega, by omega, by rw [cntI_0, hcn]; omega⟩)
          have HJ := Lib.hid hjr
          clear hV hl1 hcn hj HR3' HC3' HK' hjr
          go_wp2_with fail
          refine hfl.mono ?_
          rintro e w6 ⟨rfl, h6⟩
          have hst : Calls Tryz.prog 39 #[.pointer (some ⟨mb, 0, none⟩), .string ⟨#[97]⟩] w6 fun e w' => e = .returned (.int .i64 1) ∧ w6 = w' := by
            have := state_at h6 [97]
            rw [ofS] at this
            exact this
          have H6 := Lib.hid h6
          clear hfl h6
          go_wp2_with fail
          refine hst.mono ?_
          rintro e w7 ⟨rfl, rfl⟩
          clear hst
          go_wp2_with fail
          go_roundw
          case rel => exact ⟨j + 1, la + 1, _, HN.out.1, by go_num, H6.out, HN.out.2.1, HN.out.2.2⟩
          case measure => have := HJ.out; simp [intOf]; omega
        · obtain rfl : j = r := by omega
          have hfl : Calls Tryz.prog 33 #[.pointer (some ⟨mb, 0, none⟩), .string ⟨#[97]⟩] wr fun e w' => e = .returned (.int .i64 0) ∧ MgAt w2 v mb tb g (usR j) (ordU (usR j)) (12 * k + 2 + 2 * j + 2) (VF true la (ev ++ [(4, [97])])) w' := by
            have := fail_at hV (HM.out.later HB2.out) (by omega) (shortR j) [97] (by decide)
            rw [failR_last j la j ev (by omega) (by omega)] at this
            exact this
          have HN := Lib.hid (show 0 ≤ la ∧ cntI (ev ++ [(4, [97])]) = (k + 1) * (1 + j) from ⟨by omega, by rw [cntI_4, hcn, Nat.succ_mul]; omega⟩)
          clear hV hl1 hcn hj HR3' HC3' HK' hjr
          go_wp2_with fail
          refine hfl.mono ?_
          rintro e w6 ⟨rfl, h6⟩
          have hst : Calls Tryz.prog 39 #[.pointer (some ⟨mb, 0, none⟩), .string ⟨#[97]⟩] w6 fun e w' => e = .returned (.int .i64 4) ∧ w6 = w' := by
            have := state_at h6 [97]
            rw [ofF] at this
            exact this
          have d0 := mgcells h6
          have hls : Calls Tryz.prog 16 #[.pointer (some ⟨tb, 0, none⟩)] w6 fun e w' => ∃ a c, e = .returned (.slice a 0 c) ∧ Below w6.heap.size w6 w' := mlist_at h6 (by have := HR3.out; have := HC3.out; have := HK.out.1; omega)
          have H6 := Lib.hid h6
          clear hfl h6
          go_wp2_with fail
          refine hst.mono ?_
          rintro e w7 ⟨rfl, rfl⟩
          clear hst
          go_wp2_with fail
          refine hls.mono ?_
          rintro e w8 ⟨a8, c8, rfl, hb8⟩
          have h8 := H6.out.later hb8
          have hfl : Calls Tryz.prog 33 #[.pointer (some ⟨mb, 0, none⟩), .string ⟨#[97]⟩] w8 fun e w' => e = .returned (.int .i64 20) ∧ MgAt w2 v mb tb g (usR j) (ordU (usR j)) (12 * k + 2 + 2 * j + 2 + 2) (VF true la (ev ++ [(4, [97])])) w' := by
            have := fail_at h8 (HM.out.later HB2.out) (by have := HR3.out; have := HC3.out; have := HK.out.1; omega) (shortR j) [97] (by decide)
            rw [failR_none] at this
            exact this
          clear hls hb8 h8 d0
          go_wp2_with fail
          refine hfl.mono ?_
          rintro e w9 ⟨rfl, h9⟩
          have H9 := Lib.hid (h9.mono (N' := 12 * (k + 1)) (by have := HR3.out; omega))
          clear hfl h9
          go_wp2_with fail
          go_roundw
          case rel => exact ⟨k + 1, true, la, _, by have := HK.out.1; omega, by go_num, H9.out, HN.out.1, HN.out.2⟩
          case measure => have := HK.out.1; simp [intOf]; omega
    · obtain rfl : k = 1 + c := by omega
      have HC3' := HC3.out
      have HR3' := HR3.out
      have hev := events_at hV
      have hVb : ({ VF b last evs with evs := [] } : MV) = VF b last [] := rfl
      rw [hVb, show (VF b last evs).evs = evs from rfl] at hev
      have hnl : evs.length ≤ 100 := by
        have := hV.good.evs
        have e : (VF b last evs).evs = evs := rfl
        rw [e] at this
        omega
      have HCN := Lib.hid (And.intro hcnt (And.intro hl0 hnl))
      clear hV hcnt hl0 hnl hVb HC3' HR3' hlt hk
      go_wp2_with fail
      refine hev.mono ?_
      rintro e w5 ⟨ea, ec, rfl, h5, hc5⟩
      have H5 := Lib.hid h5
      have HE := Lib.hid (show ∃ q : Nat, q ≤ evs.length ∧ (.int .i64 0 : Value) = .int .i64 q ∧ (.int .i64 0 : Value) = .int .i64 (cntI (evs.take q)) ∧ Below w5.heap.size w5 w5 from ⟨0, Nat.zero_le _, rfl, rfl, Below.refl _ _⟩)
      clear hev h5
      go_wp2_with fail
      go_loopw [10, 85] (fun s10 s85 wq => ∃ q : Nat, q ≤ evs.length ∧ s85 = .int .i64 q ∧ s10 = .int .i64 (cntI (evs.take q)) ∧ Below w5.heap.size w5 wq) (fun _ s85 _ => evs.length - (intOf s85).toNat)
      case atStart => exact HE.out
      case round =>
        obtain ⟨q, hq, rfl, rfl, hbq⟩ := hrel
        have hnl := HCN.out.2.2
        by_cases hqn : q < evs.length
        · obtain ⟨ge, rfl, e0, e1⟩ := hc5.out wr hbq q hqn
          have hqi : (q : Int) < (evs.length : Int) := by omega
          have hqb : (q : Int) ≤ 100 := by omega
          have hcb : (cntI (evs.take q) : Int) ≤ 100 := by
            have h1 := List.length_filter_le (fun e : Int × Nm => e.1 == 0) (evs.take q)
            have h2 : (evs.take q).length ≤ q := by rw [List.length_take]; omega
            unfold cntI
            omega
          have hc0 : (0 : Int) ≤ (cntI (evs.take q) : Int) := by omega
          have hs := cntI_take evs q hqn
          have HQ := Lib.hid hqn
          have HBQ := Lib.hid (hbq.alloc hbq.size (.cells #[.int .i64 evs[q].1, .string (toB evs[q].2)] 92))
          clear hnl hbq
          generalize cntI (evs.take q) = n0 at *
          generalize evs[q].1 = kd at *
          generalize toB evs[q].2 = nm at *
          by_cases hk0 : kd = 0
          · subst hk0
            rw [show ((0 : Int) == 0) = true from rfl, if_pos rfl] at hs
            have HS := Lib.hid hs
            clear hs hqn
            go_wp2_with fail
            go_roundw
            case rel => exact ⟨q + 1, by have := HQ.out; omega, by go_num, by rw [HS.out]; go_num, HBQ.out⟩
            case measure => have := HQ.out; simp [intOf]; omega
          · have hk2 : (kd == 0) = false := by simpa using hk0
            rw [hk2, if_neg (by decide)] at hs
            have HS := Lib.hid hs
            clear hs hqn hk0
            go_wp2_with fail
            go_roundw
            case rel => exact ⟨q + 1, by have := HQ.out; omega, by go_num, by rw [HS.out]; rfl, HBQ.out⟩
            case measure => have := HQ.out; simp [intOf]; omega
        · obtain rfl : q = evs.length := by omega
          rw [List.take_length]
          have HR3' := HR3.out
          have HC3' := HC3.out
          have hNb : 12 * (1 + c) ≤ 48 := by omega
          have hwr : IntKind.i64.wrap (1 + (r : Int)) = 1 + r := IntWalk.i64_in _ (by omega)
          have hcn : ((cntI evs : Nat) : Int) = (1 + (c : Int)) * (1 + (r : Int)) := by rw [HCN.out.1]; push_cast; rfl
          have hcb : (cntI evs : Int) ≤ 100 := by
            have h1 := List.length_filter_le (fun e : Int × Nm => e.1 == 0) evs
            unfold cntI
            omega
          have hmul : IntKind.i64.wrap ((1 + (c : Int)) * (1 + (r : Int))) = ((cntI evs : Nat) : Int) := by rw [← hcn]; exact IntWalk.i64_in _ (by omega)
          have hS : Calls Tryz.prog 25 #[.pointer (some ⟨mb, 0, none⟩), .string ⟨#[97]⟩] wr fun e w' => e = .returned (.int .i64 0) ∧ MgAt w2 v mb tb g (usR r) (ordU (usR r)) 50 (VS (last + 1) 0 ([] ++ [(0, [97])])) w' := by
            have := start_at ((H5.out.later hbq).mono (N' := 48) hNb) (HM.out.later HB2.out) (by decide) (shortR r) [97] (by decide)
            rw [startR] at this
            exact this
          have HL := Lib.hid (show last + 1 ≠ 0 from by have := HCN.out.2.1; omega)
          clear HR3' HC3' hNb hnl hqn hq hcn hbq hcb
          generalize cntI evs = n1 at *
          go_wp2_with fail
          refine hS.mono ?_
          rintro e w6 ⟨rfl, h6⟩
          have k1 : Calls Tryz.prog 27 #[.pointer (some ⟨mb, 0, none⟩), .string ⟨#[97]⟩] w6 fun e w' => e = .returned (.int .i64 0) ∧ MgAt w2 v mb tb g (usR r) (ordU (usR r)) 52 (VO (last + 1) 0 ([] ++ [(0, [97])] ++ [(1, [97])])) w' := by
            have := ready_at h6 (by decide) [97] (by decide)
            rw [readyR] at this
            exact this
          clear hS h6 hmul
          go_wp2_with fail
          refine k1.mono ?_
          rintro e w7 ⟨rfl, h7⟩
          have k2 : Calls Tryz.prog 33 #[.pointer (some ⟨mb, 0, none⟩), .string ⟨#[97]⟩] w7 fun e w' => e = .returned (.int .i64 0) ∧ MgAt w2 v mb tb g (usR r) (ordU (usR r)) 54 (VF true (last + 1) ([] ++ [(0, [97])] ++ [(1, [97])] ++ [(4, [97])])) w' := by
            have := fail_at h7 (HM.out.later HB2.out) (by decide) (shortR r) [97] (by decide)
            rw [failR_on _ _ _ _ HL.out] at this
            exact this
          clear k1 h7
          go_wp2_with fail
          refine k2.mono ?_
          rintro e w8 ⟨rfl, h8⟩
          have k3 : Calls Tryz.prog 39 #[.pointer (some ⟨mb, 0, none⟩), .string ⟨#[97]⟩] w8 fun e w' => e = .returned (.int .i64 4) ∧ w8 = w' := by
            have := state_at h8 [97]
            rw [ofF] at this
            exact this
          have k4 : Calls Tryz.prog 29 #[.pointer (some ⟨mb, 0, none⟩), .string ⟨#[97]⟩] w8 fun e w' => e = .returned (.int .i64 0) ∧ MgAt w2 v mb tb g (usR r) (ordU (usR r)) 56 (VF false (last + 1) ([] ++ [(0, [97])] ++ [(1, [97])] ++ [(4, [97])] ++ [(3, [97])])) w' := by
            have := stop_at h8 (by decide) [97] (by decide)
            rw [stopR] at this
            exact this
          clear k2 h8
          go_wp2_with fail
          refine k3.mono ?_
          rintro e w9 ⟨rfl, rfl⟩
          clear k3
          go_wp2_with fail
          refine k4.mono ?_
          rintro e w10 ⟨rfl, h10⟩
          have k5 : Calls Tryz.prog 39 #[.pointer (some ⟨mb, 0, none⟩), .string ⟨#[97]⟩] w10 fun e w' => e = .returned (.int .i64 0) ∧ w10 = w' := state_at h10 [97]
          have HB := Lib.hid (HB2.out.trans (h10.below.mono HB2.out.size))
          clear k4 h10
          go_wp2_with fail
          refine k5.mono ?_
          rintro e w11 ⟨rfl, rfl⟩
          clear k5
          go_wp2_with fail
          go_ret
          exact ⟨rfl, HB.out⟩
end Go.Proofs.YtnjabanjgckeoaaGreatDoor
end

/- The world's shape gives the library's own bound. -/
section
namespace Go.Proofs.YtnjabanjgckeoaaGreatDoor
open Go.RowKit
theorem mx_of {W : World} (h : W.ShapedOpen Tryz.prog) : Mx W := by
  obtain ⟨m, hm⟩ : ∃ m, W.cell? ⟨0, 0, none⟩ = some (.int .i64 m) := cell_of_shapedOpen_int (zero := #[.int .i64 0]) (t := 3) (k := .i64) h (of_decide_eq_true (by kernel_rfl)) (by kernel_rfl) rfl (by kernel_rfl) (by kernel_rfl) (by kernel_rfl)
  exact ⟨World.block_lt_of_cell? W _ hm, m, hm⟩
end Go.Proofs.YtnjabanjgckeoaaGreatDoor
end
