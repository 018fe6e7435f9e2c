/- What the law JobsOrders asks, plain. -/
import Derived.Test.YtnjabanjgckeoaaJ8
namespace Go.Proofs.Ytnjabanjgckeoaa
open Go.RowKit
open Go.ChangeMaps (setBlock)
set_option linter.unusedVariables false
set_option linter.unusedSimpArgs false
set_option maxRecDepth 100000

theorem placed_sub {us : List GU} (h : errU us = 0) {S a b : List Nm} {n : Nm} (hs : S.Sublist (ordU us)) (e : S = a ++ n :: b) : ∀ x ∈ aheadU us n, x ∉ n :: b := by
  subst e
  obtain ⟨r1, r2, e1, _, h2⟩ := List.append_sublist_iff.1 hs
  obtain ⟨s1, s2, e2, h3, h4⟩ := List.cons_sublist_iff.1 h2
  obtain ⟨p, q, e3⟩ := List.append_of_mem h3
  have e9 : ordU us = (r1 ++ p) ++ n :: (q ++ s2) := by rw [e1, e2, e3]; simp
  intro x hx hm
  refine ordU_placed h _ _ _ e9 x hx ?_
  rcases List.mem_cons.1 hm with hm | hm
  · exact List.mem_cons.2 (.inl hm)
  · exact List.mem_cons_of_mem _ (List.mem_append_right _ (h4.subset hm))
theorem split_at {l : List Nm} {i : Nat} (hi : i < l.length) : l = l.take i ++ l[i] :: l.drop (i + 1) := by
  rw [← List.drop_eq_getElem_cons hi, List.take_append_drop]
/-- What stops. -/
def stopN (us : List GU) (run l : List Nm) : List Nm := (pick (ordU us) l).filter fun n => decide (n ∈ run)
theorem stopN_sub (us : List GU) (run l : List Nm) : (stopN us run l).Sublist (ordU us) := List.filter_sublist.trans List.filter_sublist
theorem behind_mem {us : List GU} {n x : Nm} (hx : x ∈ if n ∈ namesU us then aheadU us n else []) : x ∈ aheadU us n := by
  split at hx
  · exact hx
  · cases hx
theorem stop_ok {us : List GU} (h : errU us = 0) {S : List Nm} (hs : S.Sublist (ordU us)) {i : Nat} (hi : i < S.reverse.length) {x : Nm} (hx : x ∈ aheadU us S.reverse[i]) : decide (x ∈ S.reverse.take i) = false := by
  refine decide_eq_false fun hm => ?_
  have e := split_at hi
  have e2 : S = (S.reverse.drop (i + 1)).reverse ++ S.reverse[i] :: (S.reverse.take i).reverse := by
    have := congrArg List.reverse e
    rw [List.reverse_reverse, List.reverse_append, List.reverse_cons] at this
    exact this.trans (by simp)
  exact placed_sub h hs e2 x hx (List.mem_cons_of_mem _ (List.mem_reverse.2 hm))
theorem start_ok {us : List GU} (h : errU us = 0) {T : List Nm} (hs : T.Sublist (ordU us)) {i : Nat} (hi : i < T.length) {x : Nm} (hx : x ∈ aheadU us T[i]) : decide (x ∈ T.drop i) = false := by
  refine decide_eq_false fun hm => ?_
  rw [List.drop_eq_getElem_cons hi] at hm
  exact placed_sub h hs (split_at hi) x hx hm
theorem stop_mem {us : List GU} {run l : List Nm} {n : Nm} (h : n ∈ (stopN us run l).reverse) : n ∈ run ∧ n ∈ l := by
  have h1 := List.mem_filter.1 (List.mem_reverse.1 h)
  have h2 := List.mem_filter.1 h1.1
  simp only [decide_eq_true_eq] at h1 h2
  exact ⟨h1.2, h2.2⟩
theorem start_mem {us us2 : List GU} {run l : List Nm} {n : Nm} (h : n ∈ pick (ordU us2) (stopN us run l)) : n ∈ (stopN us run l).reverse := by
  have h2 := List.mem_filter.1 h
  simp only [decide_eq_true_eq] at h2
  exact List.mem_reverse.2 h2.2
theorem hit_stop {us : List GU} (h : errU us = 0) {run hit l : List Nm} (hl : Just l (LeanR us hit)) {n : Nm} (h1 : n ∈ hit) (h2 : n ∈ namesU us) (h3 : n ∈ run) : n ∈ (stopN us run l).reverse := by
  refine List.mem_reverse.2 (List.mem_filter.2 ⟨List.mem_filter.2 ⟨(ordU_perm h).mem_iff.2 h2, ?_⟩, ?_⟩)
  · simpa using (hl.mem n).2 (.base h2 h1)
  · simpa using h3
theorem sts_drop {w : World} {b o n c : Nat} {ls : List Nm} (h : Sts w (.slice (some ⟨b, o, none⟩) n c) ls) (k : Nat) (hk : k < ls.length) : Sts w (.slice (some ⟨b, o + k, none⟩) (n - k) (c - k)) (ls.drop k) := by
  obtain ⟨a', c', e, h2, h3, h4⟩ := h
  injection e with e1 e2 e3
  subst e1 e2 e3
  have hl : (ls.drop k).length = ls.length - k := List.length_drop
  refine ⟨_, _, by rw [hl], by omega, by omega, fun hp => ?_⟩
  obtain ⟨b', o', e, hb, hc⟩ := h4 (by omega)
  injection e with e
  injection e with e1 e2
  subst e1 e2
  refine ⟨b, o + k, rfl, hb, fun j hj => ?_⟩
  rw [List.getElem_drop, Nat.add_assoc]
  exact hc (k + j) (by omega)
theorem plan_gen {us us2 : List GU} {run hit : List Nm} {w : World} (e : Ending) (w' : World) (hp : ∃ l v1 v2, Plan2 us (ordU us) (ordU us2) run hit w w' e l v1 v2) :
    ∃ l a1 n1 c1 a2 n2 c2, e = .returned (.agg #[.slice a1 n1 c1, .slice a2 n2 c2]) ∧ Just l (LeanR us hit) ∧ n1 = (stopN us run l).reverse.length ∧ n2 = (pick (ordU us2) (stopN us run l)).length ∧ Own w w' [rowSs (.slice a1 n1 c1) (stopN us run l).reverse, rowSs (.slice a2 n2 c2) (pick (ordU us2) (stopN us run l))] := by
  obtain ⟨l, v1, v2, hp⟩ := hp
  have hO : Own w w' [rowSs v1 (stopN us run l).reverse, rowSs v2 (pick (ordU us2) (stopN us run l))] := hp.own
  obtain ⟨a1, c1, hv1, _, _⟩ := Own.sized (h := hO)
  obtain ⟨a2, c2, hv2, _, _⟩ := Own.sized (h := hO.tail)
  have hv1' : v1 = .slice a1 (stopN us run l).reverse.length c1 := hv1
  have hv2' : v2 = .slice a2 (pick (ordU us2) (stopN us run l)).length c2 := hv2
  subst hv1' hv2'
  exact ⟨l, a1, _, c1, a2, _, c2, hp.ret, hp.just, rfl, rfl, hO⟩
theorem sts_big {w : World} {a : Option Addr} {n c : Nat} {ls : List Nm} (h : Sts w (.slice a n c) ls) : n = ls.length ∧ n ≤ c ∧ c ≤ maxLen := by
  obtain ⟨a', c', e, h2, h3, _⟩ := h
  injection e with e1 e2 e3
  subst e1 e2 e3
  exact ⟨rfl, h2, h3⟩
end Go.Proofs.Ytnjabanjgckeoaa
