/- The document's Order is the graph's, and what leans: plain. -/
import Derived.Test.YtnjabanjgckeoaaJ16
namespace Go.Proofs.Ytnjabanjgckeoaa
section
open Go.RowKit
set_option linter.unusedVariables false
set_option linter.unusedSimpArgs false

def leftD (S ord : List Nm) : List Nm := S.filter fun x => !decide (x ∈ ord)
def iterD (us : List GU) (S : List Nm) : Nat → List Nm → List Nm
  | 0, o => o
  | f + 1, o => iterD us S f (stepD us S o)
theorem iterD_step (us : List GU) (S : List Nm) : ∀ f o, iterD us S f (stepD us S o) = stepD us S (iterD us S f o)
  | 0, o => rfl
  | f + 1, o => iterD_step us S f (stepD us S o)
theorem ordDn_iter (us : List GU) (S : List Nm) : ∀ n, ordDn us S n = iterD us S n []
  | 0 => rfl
  | n + 1 => by
    show stepD us S (ordDn us S n) = iterD us S n (stepD us S [])
    rw [iterD_step, ordDn_iter us S n]
theorem iterD_stay {us : List GU} {S o : List Nm} (h : stepD us S o = o) : ∀ f, iterD us S f o = o
  | 0 => rfl
  | f + 1 => by
    show iterD us S f (stepD us S o) = o
    rw [h]; exact iterD_stay h f
theorem standD_ahead {us : List GU} (hd : (namesU us).Nodup) {n x : Nm} (hn : n ∈ namesU us) (hx : x ∈ namesU us) : standD us n x = decide (x ∈ aheadU us n) := by
  obtain ⟨h1, h2⟩ := findU_of hd hx
  unfold standD
  rw [decide_eq_true hn, decide_eq_true hx]
  have e : (x ∈ aheadU us n) ↔ standU us n (findU us x) = true := by
    unfold aheadU
    rw [mem_sortN, List.mem_map]
    constructor
    · rintro ⟨o, ho, rfl⟩
      obtain ⟨h3, h4⟩ := List.mem_filter.1 ho
      rw [findU_mem hd h3]; exact h4
    · intro h
      exact ⟨_, List.mem_filter.2 ⟨h1, h⟩, h2⟩
  by_cases hs : standU us n (findU us x) = true
  · rw [decide_eq_true (e.2 hs)]
    unfold standU at hs
    rw [h2] at hs
    simpa using hs
  · rw [decide_eq_false fun h => hs (e.1 h)]
    have hs' : standU us n (findU us x) = false := by simpa using hs
    unfold standU at hs'
    rw [h2] at hs'
    simpa using hs'
theorem freeD_left {us : List GU} (hd : (namesU us).Nodup) {ord : List Nm} {n : Nm} (hn : n ∈ namesU us) :
    freeD us (sortN (namesU us)) ord n = (!decide (n ∈ ord) && freeN (aheadU us) (leftD (sortN (namesU us)) ord) n) := by
  unfold freeD
  congr 1
  unfold freeN
  rw [Bool.eq_iff_iff]
  simp only [List.all_eq_true, Bool.or_eq_true, Bool.not_eq_true', decide_eq_true_eq, List.any_eq_false]
  constructor
  · intro h x hx hl
    unfold leftD at hl
    obtain ⟨h1, h2⟩ := List.mem_filter.1 hl
    rcases h x h1 with h3 | h3
    · rw [standD_ahead hd hn (mem_sortN.1 h1)] at h3
      exact absurd hx (by simpa using h3)
    · simp [h3] at h2
  · intro h x hx
    by_cases ho : x ∈ ord
    · exact .inr ho
    · refine .inl ?_
      rw [standD_ahead hd hn (mem_sortN.1 hx)]
      refine decide_eq_false fun ha => h x ha ?_
      unfold leftD
      exact List.mem_filter.2 ⟨hx, by simp [ho]⟩
theorem find_left {us : List GU} (hd : (namesU us).Nodup) (ord : List Nm) :
    (sortN (namesU us)).find? (freeD us (sortN (namesU us)) ord) = (leftD (sortN (namesU us)) ord).find? (freeN (aheadU us) (leftD (sortN (namesU us)) ord)) := by
  rw [show leftD (sortN (namesU us)) ord = (sortN (namesU us)).filter (fun x => !decide (x ∈ ord)) from rfl, List.find?_filter]
  have : ∀ l : List Nm, (∀ x ∈ l, x ∈ namesU us) → l.find? (freeD us (sortN (namesU us)) ord) = l.find? (fun a => !decide (a ∈ ord) && freeN (aheadU us) ((sortN (namesU us)).filter (fun x => !decide (x ∈ ord))) a) := by
    intro l
    induction l with
    | nil => intro _; rfl
    | cons y r ih =>
      intro h
      rw [List.find?_cons, List.find?_cons, freeD_left hd (h y (List.mem_cons_self ..)), ih fun x hx => h x (List.mem_cons_of_mem _ hx)]
      rfl
  have h2 := this (sortN (namesU us)) fun x hx => mem_sortN.1 hx
  simpa using h2
theorem erase_nodup {l : List Nm} (hd : l.Nodup) {k : Nat} (hk : k < l.length) : l.eraseIdx k = l.filter fun x => !decide (x = l[k]) := by
  induction l generalizing k with
  | nil => cases hk
  | cons y r ih =>
    have hd' := List.nodup_cons.1 hd
    cases k with
    | zero =>
      simp only [List.eraseIdx_zero, List.getElem_cons_zero, List.tail_cons]
      rw [List.filter_cons]
      simp only [decide_true, Bool.not_true, Bool.false_eq_true, if_false]
      rw [List.filter_eq_self.2 fun x hx => by
        simp only [Bool.not_eq_true', decide_eq_false_iff_not]
        exact fun e => hd'.1 (e ▸ hx)]
    | succ k =>
      have hk' : k < r.length := by simpa using hk
      simp only [List.eraseIdx_cons_succ, List.getElem_cons_succ]
      rw [List.filter_cons, ih hd'.2 hk']
      have hne : y ≠ r[k] := fun e => hd'.1 (e ▸ List.getElem_mem hk')
      simp [hne]
theorem leftD_more (S ord : List Nm) (n : Nm) : leftD S (ord ++ [n]) = (leftD S ord).filter fun x => !decide (x = n) := by
  unfold leftD
  rw [List.filter_filter]
  congr 1
  funext x
  simp [List.mem_append]
  by_cases h1 : x ∈ ord <;> by_cases h2 : x = n <;> simp [h1, h2]
theorem place_iter {us : List GU} (hd : (namesU us).Nodup) : ∀ f ord, (placeN (aheadU us) f ord (leftD (sortN (namesU us)) ord)).1 = iterD us (sortN (namesU us)) f ord
  | 0, ord => rfl
  | f + 1, ord => by
    have hf := find_left hd ord
    have hln : (leftD (sortN (namesU us)) ord).Nodup := (sortN_nodup.2 hd).filter _
    unfold placeN
    cases hi : (leftD (sortN (namesU us)) ord).findIdx? (freeN (aheadU us) (leftD (sortN (namesU us)) ord)) with
    | none =>
      have h1 : (leftD (sortN (namesU us)) ord).find? (freeN (aheadU us) (leftD (sortN (namesU us)) ord)) = none := by
        rw [List.find?_eq_none]
        intro x hx
        have := (List.findIdx?_eq_none_iff.1 hi) x hx
        rw [this]; exact Bool.false_ne_true
      rw [h1] at hf
      have h2 : stepD us (sortN (namesU us)) ord = ord := by unfold stepD; rw [hf]
      exact (iterD_stay h2 _).symm
    | some k =>
      obtain ⟨hk, hp, hb⟩ := List.findIdx?_eq_some_iff_getElem.1 hi
      have h1 : (leftD (sortN (namesU us)) ord).find? (freeN (aheadU us) (leftD (sortN (namesU us)) ord)) = some (leftD (sortN (namesU us)) ord)[k] := by
        rw [List.find?_eq_some_iff_getElem]
        exact ⟨hp, k, hk, rfl, fun j hj => by simpa using hb j hj⟩
      rw [h1] at hf
      have h2 : stepD us (sortN (namesU us)) ord = ord ++ [(leftD (sortN (namesU us)) ord)[k]] := by unfold stepD; rw [hf]
      show (placeN (aheadU us) f (ord ++ [(leftD (sortN (namesU us)) ord).getD k []]) ((leftD (sortN (namesU us)) ord).eraseIdx k)).1 = iterD us (sortN (namesU us)) f (stepD us (sortN (namesU us)) ord)
      rw [h2, show (leftD (sortN (namesU us)) ord).getD k [] = (leftD (sortN (namesU us)) ord)[k] from by simp [List.getD, List.getElem?_eq_getElem hk], erase_nodup hln hk, ← leftD_more]
      exact place_iter hd f _
theorem ordD_eq {us : List GU} (h : errU us = 0) : ordDn us (sortN (namesU us)) ((sortN (namesU us)).length + 1) = ordU us := by
  have hd := (errU_ok h).2.1
  have hl : (sortN (namesU us)).length = us.length := by rw [sortN_length]; unfold namesU; rw [List.length_map]
  have e1 : ordDn us (sortN (namesU us)) us.length = ordU us := by
    rw [ordDn_iter, ← place_iter hd, show leftD (sortN (namesU us)) [] = sortN (namesU us) from by unfold leftD; simp]
    rfl
  rw [hl]
  show stepD us (sortN (namesU us)) (ordDn us (sortN (namesU us)) us.length) = ordU us
  rw [e1]
  refine stepD_none fun q hq => ?_
  unfold freeD
  rw [decide_eq_true ((ordU_perm h).mem_iff.2 (mem_sortN.1 (List.getElem_mem hq)))]
  rfl
end
section
open Go.RowKit
set_option linter.unusedVariables false
set_option linter.unusedSimpArgs false

def GoodL (us : List GU) (som l : List Nm) : Prop := l.Nodup ∧ ∀ x ∈ l, x ∈ namesU us ∧ LeanR us som x
theorem addD_good {us : List GU} (hd : (namesU us).Nodup) {som l : List Nm} (h : GoodL us som l) {n : Nm} (hn : n ∈ namesU us) : GoodL us som (addD us som l n) := by
  unfold addD
  split
  · rename_i hc
    simp only [Bool.and_eq_true, Bool.not_eq_true', decide_eq_false_iff_not] at hc
    obtain ⟨hc1, hc2⟩ := hc
    have hL : LeanR us som n := by
      unfold leansD at hc1
      simp only [Bool.or_eq_true, decide_eq_true_eq, List.any_eq_true] at hc1
      rcases hc1 with h1 | ⟨x, hx, h2⟩
      · exact .base hn h1
      · obtain ⟨h3, h4⟩ := findU_of hd hn
        have h5 := LeanR.step h3 (by unfold onD at h2; simpa using h2) (h.2 x hx).2
        rwa [h4] at h5
    refine ⟨List.nodup_append.2 ⟨h.1, by simp, fun a ha b hb => ?_⟩, fun x hx => ?_⟩
    · rw [List.mem_singleton.1 hb]; exact fun e => hc2 (e ▸ ha)
    · rcases List.mem_append.1 hx with hx | hx
      · exact h.2 x hx
      · rw [List.mem_singleton.1 hx]; exact ⟨hn, hL⟩
  · exact h
theorem fold_good {us : List GU} (hd : (namesU us).Nodup) {som : List Nm} : ∀ (T l : List Nm), (∀ x ∈ T, x ∈ namesU us) → GoodL us som l → GoodL us som (T.foldl (addD us som) l)
  | [], l, _, h => h
  | n :: T, l, hT, h => fold_good hd T _ (fun x hx => hT x (List.mem_cons_of_mem _ hx)) (addD_good hd h (hT n (List.mem_cons_self ..)))
theorem leanDn_good {us : List GU} (hd : (namesU us).Nodup) (som : List Nm) : ∀ n, GoodL us som (leanDn us som (sortN (namesU us)) n)
  | 0 => ⟨List.nodup_nil, fun x hx => by cases hx⟩
  | n + 1 => fold_good hd _ _ (fun x hx => mem_sortN.1 (List.mem_of_mem_take hx)) (leanDn_good hd som n)
theorem addD_len (us : List GU) (som l : List Nm) (n : Nm) : l.length ≤ (addD us som l n).length := by
  unfold addD
  split <;> simp
theorem fold_len (us : List GU) (som : List Nm) : ∀ (T l : List Nm), l.length ≤ (T.foldl (addD us som) l).length
  | [], l => Nat.le_refl _
  | n :: T, l => Nat.le_trans (addD_len us som l n) (fold_len us som T _)
theorem fold_cases (us : List GU) (som : List Nm) : ∀ (T l : List Nm), (T.foldl (addD us som) l = l ∧ ∀ n ∈ T, leansD us som l n = true → n ∈ l) ∨ l.length < (T.foldl (addD us som) l).length
  | [], l => .inl ⟨rfl, fun n hn => by cases hn⟩
  | n :: T, l => by
    show (T.foldl (addD us som) (addD us som l n) = l ∧ _) ∨ _ < (T.foldl (addD us som) (addD us som l n)).length
    by_cases hc : (leansD us som l n && !decide (n ∈ l)) = true
    · refine .inr ?_
      have h1 := fold_len us som T (addD us som l n)
      have h2 : addD us som l n = l ++ [n] := by unfold addD; rw [if_pos hc]
      rw [h2] at h1 ⊢
      simp at h1
      omega
    · have h2 : addD us som l n = l := by unfold addD; rw [if_neg hc]
      rw [h2]
      rcases fold_cases us som T l with ⟨h3, h4⟩ | h3
      · refine .inl ⟨h3, fun m hm hl => ?_⟩
        rcases List.mem_cons.1 hm with rfl | hm
        · simpa [hl] using hc
        · exact h4 m hm hl
      · exact .inr h3
def ClosedL (us : List GU) (som S l : List Nm) : Prop := ∀ n ∈ S, leansD us som l n = true → n ∈ l
theorem fold_closed {us : List GU} {som S l : List Nm} (h : ClosedL us som S l) : ∀ T : List Nm, (∀ x ∈ T, x ∈ S) → T.foldl (addD us som) l = l
  | [], _ => rfl
  | n :: T, hT => by
    have h2 : addD us som l n = l := by
      unfold addD
      rw [if_neg]
      simp only [Bool.and_eq_true, Bool.not_eq_true', decide_eq_false_iff_not, not_and, Decidable.not_not]
      exact h n (hT n (List.mem_cons_self ..))
    show T.foldl (addD us som) (addD us som l n) = l
    rw [h2]
    exact fold_closed h T fun x hx => hT x (List.mem_cons_of_mem _ hx)
theorem leanDn_closes (us : List GU) (som S : List Nm) : ∀ n, ClosedL us som S (leanDn us som S n) ∨ n ≤ (leanDn us som S n).length
  | 0 => .inr (Nat.zero_le _)
  | n + 1 => by
    have hstep : leanDn us som S (n + 1) = S.foldl (addD us som) (leanDn us som S n) := by
      show passD us som S (leanDn us som S n) S.length = _
      unfold passD
      rw [List.take_length]
    rcases leanDn_closes us som S n with h | h
    · have h2 := fold_closed h S fun x hx => hx
      rw [hstep, h2]
      exact .inl h
    · rcases fold_cases us som S (leanDn us som S n) with ⟨h1, h2⟩ | h1
      · rw [hstep, h1]
        exact .inl h2
      · rw [hstep]
        exact .inr (by omega)
theorem closed_lean {us : List GU} (hd : (namesU us).Nodup) {som l : List Nm} (h : ClosedL us som (sortN (namesU us)) l) {n : Nm} (hL : LeanR us som n) : n ∈ l := by
  induction hL with
  | base hn hs => exact h _ (mem_sortN.2 hn) (by unfold leansD; rw [decide_eq_true hs]; rfl)
  | @step u x hu hx _ ih =>
    refine h _ (mem_sortN.2 (mem_names.2 ⟨u, hu, rfl⟩)) ?_
    unfold leansD
    rw [show (l.any (onD us u.name)) = true from List.any_eq_true.2 ⟨x, ih, by unfold onD; rw [findU_mem hd hu]; simpa using hx⟩]
    simp
theorem leanD_iff {us : List GU} (hd : (namesU us).Nodup) (som : List Nm) (n : Nm) : n ∈ pick (sortN (namesU us)) (leanDn us som (sortN (namesU us)) ((sortN (namesU us)).length + 1)) ↔ n ∈ namesU us ∧ LeanR us som n := by
  have hg := leanDn_good hd som ((sortN (namesU us)).length + 1)
  unfold pick
  rw [List.mem_filter, mem_sortN, decide_eq_true_eq]
  constructor
  · rintro ⟨h1, h2⟩
    exact ⟨h1, (hg.2 n h2).2⟩
  · rintro ⟨h1, h2⟩
    refine ⟨h1, closed_lean hd ?_ h2⟩
    rcases leanDn_closes us som (sortN (namesU us)) ((sortN (namesU us)).length + 1) with h | h
    · exact h
    · have := len_of_sub hg.1 (sortN_nodup.2 hd) fun x hx => mem_sortN.2 (hg.2 x hx).1
      omega
end
end Go.Proofs.Ytnjabanjgckeoaa
