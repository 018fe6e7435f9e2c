/- Restart. -/
import Derived.Test.YtnjabanjgckeoaaJ3
namespace Go.Proofs.Ytnjabanjgckeoaa
open Go.RowKit
open Go.ChangeMaps (setBlock)
set_option linter.unusedVariables false
set_option linter.unusedSimpArgs false
set_option maxRecDepth 100000

theorem info_plan : (Try.prog.info? 31).map (·.size) = some 2 := by kernel_rfl
abbrev rowPl (b : Nat) (cs : List Value) : Rw := ⟨31, 2, .slice (some ⟨b, 0, none⟩) 1 1, 1, cs⟩
theorem keep2 {W0 : Base} {w : World} {a b : Rw} {L : List Rw} (h : Own W0 w (a :: b :: L)) : Own W0 w [a, b] := by
  have h1 : Own W0 w (L ++ [a, b]) := h.perm (show (a :: b :: L).Perm (L ++ [a, b]) from (List.perm_append_comm (l₁ := [a, b]) (l₂ := L)))
  clear h
  induction L with
  | nil => exact h1
  | cons x r ih => exact ih h1.tail
/-- What Restart tells. -/
structure Plan2 (us : List GU) (ord ord2 run hit : List Nm) (w w' : World) (e : Ending) (l : List Nm) (v1 v2 : Value) : Prop where
  ret : e = .returned (.agg #[v1, v2])
  own : Own w w' [rowSs v1 ((pick ord l).filter fun n => decide (n ∈ run)).reverse, rowSs v2 (pick ord2 ((pick ord l).filter fun n => decide (n ∈ run)))]
  just : Just l (LeanR us hit)
set_option maxHeartbeats 4000000 in
theorem restart_any {w : World} {g g2 : Nat} {us us2 : List GU} {ord ord2 run hit : List Nm} {v vh : Value} (h : GAt w g us ord) (h2 : GAt w g2 us2 ord2) (hv : Sts w v run) (hh : Sts w vh hit) :
    Calls Try.prog 7 #[.pointer (some ⟨g, 0, none⟩), .pointer (some ⟨g2, 0, none⟩), v, vh] w fun e w' => ∃ l v1 v2, Plan2 us ord ord2 run hit w w' e l v1 v2 := by
  have HG := Lib.hid (fun (W : World) (L : List Rw) (hO : Own w W L) => h.later hO.below)
  have HG2 := Lib.hid (fun (W : World) (L : List Rw) (hO : Own w W L) => h2.later hO.below)
  have HV := Lib.hid (fun (W : World) (L : List Rw) (hO : Own w W L) => hv.later hO.below)
  have HH := Lib.hid (fun (W : World) (L : List Rw) (hO : Own w W L) => hh.later hO.below)
  have HLen := Lib.hid h.olen
  obtain ⟨av, nv, cv, rfl⟩ := hv.shape
  obtain ⟨ah, nh, ch, rfl⟩ := hh.shape
  have O1 := (Own.start w).made_at 23 1 #[.slice av nv cv] 1 w.heap.size rfl rfl (by unfold maxLen; decide)
  have O2 := O1.made_at 31 2 #[.slice none 0 0, .slice none 0 0] 1 (w.heap.size + 1) (by simp) rfl (by unfold maxLen; decide)
  obtain ⟨w2, hw2⟩ : ∃ w2, ((w.alloc (.cells #[.slice av nv cv] 23)).alloc (.cells #[.slice none 0 0, .slice none 0 0] 31)) = w2 := ⟨_, rfl⟩
  rw [hw2] at O2
  have HO2 := Lib.hid O2
  have HW2 := Lib.hid hw2
  clear h h2 hv hh O1 O2 hw2
  go_enter Try.func7, Try.ntmps7
  go_upto_region 2 with fail
  rw [HW2.out]
  clear HW2
  generalize w.heap.size = b6 at *
  have kl := (HG.out w2 _ HO2.out).lean (HH.out w2 _ HO2.out)
  have KO := Lib.hid (fun v3 l w3 (hO : Own w w3 [rowSs v3 l, rowPl (b6 + 1) [.slice none 0 0, .slice none 0 0], rowV1 23 b6 (.slice av nv cv)]) => (show Calls Try.prog 27 #[.pointer (some ⟨g, 0, none⟩), v3] w3 _ from (HG.out w3 _ hO).order hO.sts))
  have KD := Lib.hid (fun v4 v3 l w4 (hO : Own w w4 [rowSs v4 (pick ord l), rowSs v3 l, rowPl (b6 + 1) [.slice none 0 0, .slice none 0 0], rowV1 23 b6 (.slice av nv cv)]) => (show Calls Try.prog 26 #[v4, .func (.func 24) #[] #[.pointer (some ⟨b6, 0, none⟩)]] w4 fun e w' => ∃ v', e = .returned v' ∧ Own w w' (rowSs v' ((pick ord l).filter fun n => !(!decide (n ∈ run))) :: [rowSs v3 l, rowPl (b6 + 1) [.slice none 0 0, .slice none 0 0], rowV1 23 b6 (.slice av nv cv)]) from
    delF_row hO (Nat.le_trans (pick_len _ _) (by have := HLen.out; omega)) 24 #[.pointer (some ⟨b6, 0, none⟩)] (fun n => !decide (n ∈ run)) (enters_of Try.func24 (by kernel_rfl) rfl)
      (fun W v' l' hO x => (idle_any (hO.tail.tail.tail.cell 0 (by decide)) (HV.out W _ hO) x).mono fun e w' hp => ⟨hp.1, by rw [← hp.2]; exact Below.refl _ _⟩)))
  go_upto_region 3 with (first
    | (go_at_call 26; refine (KD.out _ _ _ _ H4.out).mono ?_; rintro e w5 ⟨v5, rfl, hO5⟩; have H5 := Lib.hid hO5; clear hO5)
    | (go_at_call 27; refine (KO.out _ _ _ H3.out).mono ?_; rintro e w4 ⟨v4, rfl, hO4⟩; have H4 := Lib.hid (H3.out.join hO4); clear hO4)
    | (go_at_call 28; refine kl.mono ?_; rintro e w3 ⟨v3, l, rfl, hO3, hJ⟩; have HJ := Lib.hid hJ; have H3 := Lib.hid (HO2.out.join hO3); clear hO3 hJ))
  have hst : (fun n => !(!decide (n ∈ run))) = fun n => decide (n ∈ run) := by funext n; rw [Bool.not_not]
  have H5' := Lib.hid (show Own w w5 (rowSs v5 ((pick ord l).filter fun n => decide (n ∈ run)) :: [rowSs v3 l, rowPl (b6 + 1) [.slice none 0 0, .slice none 0 0], rowV1 23 b6 (.slice av nv cv)]) from hst ▸ H5.out)
  have HLs := Lib.hid (show ((pick ord l).filter fun n => decide (n ∈ run)).length ≤ 1000000 from Nat.le_trans (List.length_filter_le _ _) (Nat.le_trans (pick_len _ _) (by have := HLen.out; omega)))
  clear hst H5 kl KO KD
  generalize hS : ((pick ord l).filter fun n => decide (n ∈ run)) = st at *
  have HS := Lib.hid hS
  clear hS
  have k2 := (HG2.out w5 _ H5'.out).order H5'.out.sts
  obtain ⟨a5, n5, c5, rfl⟩ := H5'.out.sts.shape
  go_upto_region 4 with (go_at_call 27; refine k2.mono ?_; rintro e w6 ⟨v6, rfl, hO6⟩; have H6 := Lib.hid (H5'.out.join hO6); clear hO6)
  have k3 := revS_row (H6.out.perm (List.Perm.swap _ _ _)) HLs.out
  obtain ⟨a6, n6, c6, rfl⟩ := H6.out.sts.shape
  clear k2
  go_upto_region 5 with (go_at_call 29; refine k3.mono ?_; rintro e w7 ⟨rfl, hO7⟩; have H7 := Lib.hid hO7; clear hO7)
  clear k3
  have h9 : Own w w7 (rowPl (b6 + 1) [.slice none 0 0, .slice none 0 0] :: [rowSs (.slice a5 n5 c5) st.reverse, rowSs (.slice a6 n6 c6) (pick ord2 st), rowSs v3 l, rowV1 23 b6 (.slice av nv cv)]) := H7.out.perm (by
    refine List.Perm.symm ?_
    exact (List.perm_middle (a := rowPl (b6 + 1) [.slice none 0 0, .slice none 0 0]) (l₁ := [rowSs (.slice a5 n5 c5) st.reverse, rowSs (.slice a6 n6 c6) (pick ord2 st), rowSs v3 l]) (l₂ := [rowV1 23 b6 (.slice av nv cv)])).symm)
  have H9 := Lib.hid h9
  have HC1 := Lib.hid (all_oneCell_toArray (cs := [.slice a5 n5 c5, .slice a6 n6 c6]) (by intro v hv; rcases List.mem_cons.1 hv with rfl | hv; { rfl }; { rcases List.mem_cons.1 hv with rfl | hv; { rfl }; { cases hv } }))
  go_wp2_with (refine wpList_store_mid rfl 31 (.tmp 8) (.tmp 27) rfl (b6 + 1) 0 #[.slice a5 n5 c5, .slice a6 n6 c6] rfl rfl (h9.there 0 2 (by decide)) info_plan HC1.out ?_)
  have h10 := H9.out.setCells [.slice a5 n5 c5, .slice a6 n6 c6] 0
  rw [splice_all' [.slice none 0 0, .slice none 0 0] [.slice a5 n5 c5, .slice a6 n6 c6] rfl] at h10
  have hr9 := h10.range 0 2
  refine bodyPost_ret (v := .agg #[.slice a5 n5 c5, .slice a6 n6 c6]) (ret_cellG Try.results7 rfl hr9 Try.underlying31 rfl info_plan) rfl ?_
  refine ⟨l, _, _, rfl, ?_, HJ.out⟩
  rw [HS.out]
  exact keep2 h10.tail
end Go.Proofs.Ytnjabanjgckeoaa
