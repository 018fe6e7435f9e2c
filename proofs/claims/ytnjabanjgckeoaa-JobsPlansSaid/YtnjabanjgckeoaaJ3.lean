/- Gone. -/
import Derived.Test.YtnjabanjgckeoaaJ2
namespace Go.Proofs.Ytnjabanjgckeoaa
open Go.RowKit
open Go.ChangeMaps (setBlock)
set_option linter.unusedVariables false
set_option linter.unusedSimpArgs false
set_option maxRecDepth 100000

theorem there_any {w : World} {b : Nat} {v : Value} {ls : List Nm} (hb : w.cell? ⟨b, 0, none⟩ = some v) (hs : Sts w v ls) (ho : InOrder ls) (hl : ls.length ≤ 1000000) (x : Nm) :
    Calls Try.prog 33 #[.string (toB x), .pointer (some ⟨b, 0, none⟩)] w fun e w' => e = .returned (.bool (decide (x ∈ ls))) ∧ w = w' := by
  have hc := bsearch_any v ls x w hs ho hl
  obtain ⟨a, n, c, rfl⟩ := hs.shape
  clear hs ho hl
  generalize decide (x ∈ ls) = r at *
  generalize toB x = xb at *
  go_enter Try.func33, Try.ntmps33
  go_wp2_with (go_at_call 34; refine hc.mono ?_; rintro e w' ⟨z, rfl, rfl⟩)
  go_ret
  exact ⟨rfl, rfl⟩
theorem idle_any {w : World} {b : Nat} {v : Value} {ls : List Nm} (hb : w.cell? ⟨b, 0, none⟩ = some v) (hs : Sts w v ls) (x : Nm) :
    Calls Try.prog 24 #[.string (toB x), .pointer (some ⟨b, 0, none⟩)] w fun e w' => e = .returned (.bool (!decide (x ∈ ls))) ∧ w = w' := by
  have hc := contains_any v ls x w hs
  obtain ⟨a, n, c, rfl⟩ := hs.shape
  clear hs
  generalize decide (x ∈ ls) = r at *
  generalize toB x = xb at *
  go_enter Try.func24, Try.ntmps24
  go_wp2_with (go_at_call 25; refine hc.mono ?_; rintro e w' ⟨rfl, rfl⟩)
  go_ret
  exact ⟨rfl, rfl⟩
def goneN (us : List GU) (run : List Nm) : List Nm := (Lib.compact (sortN run)).filter fun n => !decide (n ∈ sortN (namesU us))
theorem cut_one {W0 : Base} {w : World} {r a b : Rw} (h : Own W0 w [r, a, b]) : Own W0 w [r] :=
  (h.perm (show [r, a, b].Perm [a, b, r] from (List.Perm.swap a r [b]).trans ((List.Perm.swap b r []).cons a))).tail.tail
set_option maxHeartbeats 4000000 in
theorem gone_any {w : World} {g : Nat} {us : List GU} {ord run : List Nm} {v : Value} (h : GAt w g us ord) (hv : Sts w v run) (hl : run.length ≤ 1000000) :
    Calls Try.prog 16 #[.pointer (some ⟨g, 0, none⟩), v] w fun e w' => ∃ v', e = .returned v' ∧ Own w w' [rowSs v' (goneN us run)] := by
  have kn := h.names
  have hfew : (sortN (namesU us)).length ≤ 1000000 := by rw [sortN_length]; unfold namesU; rw [List.length_map]; have := h.few; omega
  have HV := Lib.hid hv
  obtain ⟨av, nv, cv, rfl⟩ := hv.shape
  clear h hv
  go_enter Try.func16, Try.ntmps16
  go_upto_region 2 with (go_at_call 19; refine kn.mono ?_; rintro e w1 ⟨vn, rfl, hO1⟩; obtain ⟨an, nn, cn, rfl⟩ := hO1.sts.shape; have H1 := Lib.hid hO1; clear hO1)
  have O2 := H1.out.made_at 23 1 #[.slice an nn cn] 1 w1.heap.size rfl rfl (by unfold maxLen; decide)
  obtain ⟨w2, hw2⟩ : ∃ w2, w1.alloc (.cells #[.slice an nn cn] 23) = w2 := ⟨_, rfl⟩
  rw [hw2] at O2
  rw [hw2]
  have kc := cloneS_sts (.slice av nv cv) run w2 (HV.out.later O2.below) hl
  have HO2 := Lib.hid O2
  clear O2 hw2 kn
  generalize w1.heap.size = b5 at *
  go_upto_region 4 with (go_at_call 35; refine kc.mono ?_; rintro e w3 ⟨v3, rfl, hO3⟩; obtain ⟨a3, n3, c3, rfl⟩ := hO3.sts.shape; have H3 := Lib.hid (HO2.out.join hO3); clear hO3)
  have ks := sortS_row H3.out hl
  clear kc
  go_upto_region 5 with (go_at_call 36; refine ks.mono ?_; rintro e w4 ⟨rfl, hO4⟩; have H4 := Lib.hid hO4; clear hO4)
  have kk := compact_row H4.out (by rw [sortN_length]; exact hl) (Lib.compact_length_le _)
  clear ks
  have kd : ∀ (v5 : Value) (w5 : World), Own w w5 (rowSs v5 (Lib.compact (sortN run)) :: [rowV1 23 b5 (.slice an nn cn), rowSs (.slice an nn cn) (sortN (namesU us))]) → Calls Try.prog 26 #[v5, .func (.func 33) #[] #[.pointer (some ⟨b5, 0, none⟩)]] w5 fun e w' => ∃ v', e = .returned v' ∧ Own w w' (rowSs v' (goneN us run) :: [rowV1 23 b5 (.slice an nn cn), rowSs (.slice an nn cn) (sortN (namesU us))]) := fun v5 w5 hO5 =>
    delF_row hO5 (Nat.le_trans (Lib.compact_length_le _) (by rw [sortN_length]; exact hl)) 33 #[.pointer (some ⟨b5, 0, none⟩)] (fun n => decide (n ∈ sortN (namesU us))) (enters_of Try.func33 (by kernel_rfl) rfl)
      (fun W v' l' hO x => (there_any (hO.tail.cell 0 (by decide)) hO.tail.tail.sts (sortN_order _) hfew x).mono fun e w' hp => ⟨hp.1, by rw [← hp.2]; exact Below.refl _ _⟩)
  have HD := Lib.hid kd
  clear kd
  go_upto_region 6 with (first
    | (go_at_call 26; refine (HD.out _ _ H5.out).mono ?_; rintro e w6 ⟨v6, rfl, hO6⟩; have H6 := Lib.hid hO6; clear hO6)
    | (go_at_call 37; refine kk.mono ?_; rintro e w5 ⟨v5, rfl, hO5⟩; have H5 := Lib.hid hO5; clear hO5))
  go_wp2_with fail
  go_ret
  exact ⟨_, rfl, cut_one H6.out⟩
end Go.Proofs.Ytnjabanjgckeoaa
