/- What the law JobsNone asks, plain; has. -/
import Derived.Test.YtnjabanjgckeoaaJ6
import Derived.Test.YtnjabanjgckeoaaG21
namespace Go.Proofs.Ytnjabanjgckeoaa
open Go.RowKit
open Go.ChangeMaps (setBlock)
set_option linter.unusedVariables false
set_option linter.unusedSimpArgs false
set_option maxRecDepth 100000

theorem has15_any (v : Value) (ls : List Nm) (x : Nm) (w : World) (h : Sts w v ls) : Calls Try.prog 11 #[v, .string (toB x)] w fun e w' => e = .returned (.bool (decide (x ∈ ls))) ∧ w = w' := by
  have hc := has14_any v ls x w h
  obtain ⟨a, n, c, rfl⟩ := h.shape
  clear h
  generalize decide (x ∈ ls) = r at *
  generalize toB x = xb at *
  go_enter Try.func11, Try.ntmps11
  go_wp2_with (go_at_call 31; refine hc.mono ?_; rintro e w' ⟨rfl, rfl⟩)
  go_ret
  exact ⟨rfl, rfl⟩
/-- Those of these that run. -/
def runsN (run l : List Nm) : List Nm := l.filter fun n => decide (n ∈ run)
theorem lean_no {us : List GU} {s : List Nm} {n : Nm} (h : LeanR us s n) (hs : s = []) : False := by
  induction h with
  | base _ h => subst hs; cases h
  | step _ _ _ ih => exact ih
theorem lean_nil {us : List GU} {l : List Nm} (h : Just l (LeanR us [])) : l = [] := by
  cases l with
  | nil => rfl
  | cons x r => exact (lean_no ((h.mem x).1 (List.mem_cons_self ..)) rfl).elim
theorem lean_allN {us : List GU} {l : List Nm} (hd : (namesU us).Nodup) (h : Just l (LeanR us (sortN (namesU us)))) : l = sortN (namesU us) :=
  order_ext h.order (sortN_order _) h.once (sortN_nodup.2 hd) fun n => (h.mem n).trans ⟨fun hn => mem_sortN.2 hn.there, fun hn => .base (mem_sortN.1 hn) hn⟩
theorem pick_none (ord : List Nm) : pick ord [] = [] := by
  unfold pick
  exact List.filter_eq_nil_iff.2 fun x _ => by simp
theorem stop_count {us : List GU} (h : errU us = 0) (run : List Nm) : (runsN run (sortN (namesU us))).length = (runsN run (ordU us)).reverse.length := by
  rw [List.length_reverse]
  exact (List.Perm.filter _ ((sortN_perm _).trans (ordU_perm h).symm)).length_eq
theorem start_count {us us2 : List GU} (h : errU us = 0) (h2 : errU us2 = 0) (run : List Nm) : ((runsN run (ordU us)).reverse.filter fun n => decide (n ∈ namesU us2)).length = (pick (ordU us2) (runsN run (ordU us))).length := by
  have d1 : (ordU us).Nodup := (ordU_perm h).nodup_iff.2 (errU_ok h).2.1
  have d2 : (ordU us2).Nodup := (ordU_perm h2).nodup_iff.2 (errU_ok h2).2.1
  refine List.Perm.length_eq ((List.perm_ext_iff_of_nodup (((List.reverse_perm _).nodup_iff.2 (d1.filter _)).filter _) (d2.filter _)).2 fun n => ?_)
  simp only [List.mem_filter, List.mem_reverse, decide_eq_true_eq]
  have := (ordU_perm h2).mem_iff (a := n)
  have e : n ∈ runsN run (ordU us) ↔ n ∈ ordU us ∧ n ∈ run := by unfold runsN; rw [List.mem_filter, decide_eq_true_eq]
  constructor
  · rintro ⟨a, b⟩; exact ⟨this.2 b, e.2 a⟩
  · rintro ⟨a, b⟩; exact ⟨e.1 b, this.1 a⟩
theorem runs_take (run l : List Nm) (k : Nat) (hk : k < l.length) : (runsN run (l.take (k + 1))).length = (runsN run (l.take k)).length + if l[k] ∈ run then 1 else 0 := by
  unfold runsN
  rw [List.take_succ_eq_append_getElem hk, List.filter_append, List.length_append]
  by_cases h : l[k] ∈ run <;> simp [h]
end Go.Proofs.Ytnjabanjgckeoaa
