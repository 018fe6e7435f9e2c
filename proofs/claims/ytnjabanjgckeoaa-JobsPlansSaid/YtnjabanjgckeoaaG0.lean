/- Units as plain data, names in order, behind which each stands, and how they are placed. Of no program. -/
import Derived.Test.YtnjabanjgckeoaaMHeap
import Derived.Test.YtnjabanjgckeoaaPJoin
namespace Go.Proofs.Ytnjabanjgckeoaa
open Go.RowKit
set_option linter.unusedVariables false
set_option linter.unusedSimpArgs false

abbrev Nm := List UInt8
def leN (x y : Nm) : Bool := decide (x ≤ y)
theorem leN_trans (a b c : Nm) : leN a b = true → leN b c = true → leN a c = true := by
  unfold leN; simp only [decide_eq_true_eq]; exact fun h k => List.le_trans h k
theorem leN_total (a b : Nm) : (leN a b || leN b a) = true := by
  unfold leN; simp only [Bool.or_eq_true, decide_eq_true_eq]; exact List.le_total a b
theorem leN_anti {a b : Nm} (h : leN a b = true) (k : leN b a = true) : a = b := by
  unfold leN at h k; simp only [decide_eq_true_eq] at h k; exact List.le_antisymm h k
def insN (x : Nm) : List Nm → List Nm
  | [] => [x]
  | y :: r => if leN x y then x :: y :: r else y :: insN x r
def sortN : List Nm → List Nm
  | [] => []
  | x :: r => insN x (sortN r)
def InOrder (l : List Nm) : Prop := l.Pairwise fun a b => leN a b = true
theorem insN_perm (x : Nm) (l : List Nm) : (insN x l).Perm (x :: l) := by
  induction l with
  | nil => exact List.Perm.refl _
  | cons y r ih =>
    unfold insN
    split
    · exact List.Perm.refl _
    · exact (ih.cons y).trans (List.Perm.swap x y r)
theorem sortN_perm (l : List Nm) : (sortN l).Perm l := by
  induction l with
  | nil => exact List.Perm.refl _
  | cons x r ih => exact (insN_perm x _).trans (ih.cons x)
theorem insN_order (x : Nm) {l : List Nm} (h : InOrder l) : InOrder (insN x l) := by
  induction l with
  | nil => exact List.pairwise_singleton ..
  | cons y r ih =>
    have h' := List.pairwise_cons.1 h
    unfold insN
    split
    · rename_i hx
      refine List.pairwise_cons.2 ⟨fun z hz => ?_, h⟩
      rcases List.mem_cons.1 hz with rfl | hz
      · exact hx
      · exact leN_trans _ _ _ hx (h'.1 z hz)
    · rename_i hx
      have hyx : leN y x = true := by
        have := leN_total x y
        simp only [Bool.or_eq_true] at this
        exact this.resolve_left hx
      refine List.pairwise_cons.2 ⟨fun z hz => ?_, ih h'.2⟩
      rcases List.mem_cons.1 ((insN_perm x r).mem_iff.1 hz) with rfl | hz
      · exact hyx
      · exact h'.1 z hz
theorem sortN_order (l : List Nm) : InOrder (sortN l) := by
  induction l with
  | nil => exact List.Pairwise.nil
  | cons x r ih => exact insN_order x ih
theorem order_uniq {l m : List Nm} (hp : l.Perm m) (hl : InOrder l) (hm : InOrder m) : l = m :=
  hp.eq_of_pairwise (fun a b _ _ h k => leN_anti h k) hl hm
theorem sortN_eq {l m : List Nm} (hp : l.Perm m) : sortN l = sortN m := order_uniq ((sortN_perm l).trans (hp.trans (sortN_perm m).symm)) (sortN_order l) (sortN_order m)
theorem sortN_self {l : List Nm} (h : InOrder l) : sortN l = l := order_uniq (sortN_perm l) (sortN_order l) h
theorem merge_sortN (l : List Nm) : (l.mergeSort fun x y => decide (x ≤ y)) = sortN l :=
  order_uniq ((List.mergeSort_perm l _).trans (sortN_perm l).symm) (List.pairwise_mergeSort leN_trans leN_total l) (sortN_order l)
theorem mem_sortN {x : Nm} {l : List Nm} : x ∈ sortN l ↔ x ∈ l := (sortN_perm l).mem_iff
theorem sortN_length (l : List Nm) : (sortN l).length = l.length := (sortN_perm l).length_eq
theorem sortN_nodup {l : List Nm} : (sortN l).Nodup ↔ l.Nodup := (sortN_perm l).nodup_iff
/-- Two lists in order, each name once, that have the same names are the same. -/
theorem order_ext {l m : List Nm} (hl : InOrder l) (hm : InOrder m) (dl : l.Nodup) (dm : m.Nodup) (h : ∀ x, x ∈ l ↔ x ∈ m) : l = m :=
  order_uniq ((List.perm_ext_iff_of_nodup dl dm).2 h) hl hm

structure GU where
  name : Nm
  fi : List Nm
  af : List Nm
  be : List Nm
  re : List Nm
  wa : List Nm
  pa : List Nm
  ret : Int
def GU.zero : GU := ⟨[], [], [], [], [], [], [], 0⟩
def GU.lists (u : GU) : List (List Nm) := [u.fi, u.af, u.be, u.re, u.wa, u.pa]
def namesU (us : List GU) : List Nm := us.map (·.name)
def findU (us : List GU) (n : Nm) : GU := (us.find? fun u => decide (u.name = n)).getD GU.zero
def lacksU (us : List GU) (n : Nm) : Bool := (findU us n).re.any (fun x => !decide (x ∈ namesU us)) || (findU us n).pa.any (fun x => !decide (x ∈ namesU us))
/-- Does n stand right behind o? -/
def standU (us : List GU) (n : Nm) (o : GU) : Bool := decide (o.name ∈ (findU us n).af) || decide (o.name ∈ (findU us n).re) || decide (n ∈ o.be)
def aheadU (us : List GU) (n : Nm) : List Nm := sortN ((us.filter (standU us n)).map (·.name))
def freeN (beh : Nm → List Nm) (left : List Nm) (n : Nm) : Bool := !((beh n).any fun x => decide (x ∈ left))
/-- Where the first one is of which this holds; -1: nowhere. -/
def idxF (p : Nm → Bool) (l : List Nm) : Int := match l.findIdx? p with
  | none => -1
  | some k => (k : Int)
def placeN (beh : Nm → List Nm) : Nat → List Nm → List Nm → List Nm × List Nm
  | 0, ord, left => (ord, left)
  | f + 1, ord, left => match left.findIdx? (freeN beh left) with
    | none => (ord, left)
    | some k => placeN beh f (ord ++ [left.getD k []]) (left.eraseIdx k)
def placeU (us : List GU) : List Nm × List Nm := placeN (aheadU us) us.length [] (sortN (namesU us))
def badU (us : List GU) : Bool := (sortN (namesU us)).any (lacksU us)
def errU (us : List GU) : Int :=
  if 16 < us.length then 22 else if ¬ (namesU us).Nodup then 9 else if badU us then 16 else if (placeU us).2 ≠ [] then 19 else 0

theorem findU_mem {us : List GU} (hd : (namesU us).Nodup) {u : GU} (hu : u ∈ us) : findU us u.name = u := by
  unfold findU
  induction us with
  | nil => cases hu
  | cons x r ih =>
    have hd' := List.nodup_cons.1 hd
    rw [List.find?_cons]
    by_cases hx : x.name = u.name
    · rw [decide_eq_true hx]
      rcases List.mem_cons.1 hu with rfl | hu
      · rfl
      · exact absurd (show x.name ∈ r.map GU.name from by rw [hx]; exact List.mem_map.2 ⟨u, hu, rfl⟩) hd'.1
    · rw [decide_eq_false hx]
      rcases List.mem_cons.1 hu with rfl | hu
      · exact absurd rfl hx
      · exact ih hd'.2 hu
theorem mem_names {us : List GU} {n : Nm} : n ∈ namesU us ↔ ∃ u ∈ us, u.name = n := List.mem_map
theorem findU_of {us : List GU} (hd : (namesU us).Nodup) {n : Nm} (hn : n ∈ namesU us) : findU us n ∈ us ∧ (findU us n).name = n := by
  obtain ⟨u, hu, rfl⟩ := mem_names.1 hn
  rw [findU_mem hd hu]
  exact ⟨hu, rfl⟩
theorem findU_none {us : List GU} {n : Nm} (hn : n ∉ namesU us) : findU us n = GU.zero := by
  unfold findU
  rw [List.find?_eq_none.2 fun u hu => by
    simp only [decide_eq_true_eq]
    exact fun e => hn (mem_names.2 ⟨u, hu, e⟩)]
  rfl
theorem findU_perm {us vs : List GU} (hp : us.Perm vs) (hd : (namesU us).Nodup) (n : Nm) : findU us n = findU vs n := by
  have hd2 : (namesU vs).Nodup := (List.Perm.nodup_iff (hp.map GU.name)).1 hd
  by_cases hn : n ∈ namesU us
  · obtain ⟨u, hu, rfl⟩ := mem_names.1 hn
    rw [findU_mem hd hu, findU_mem hd2 (hp.mem_iff.1 hu)]
  · rw [findU_none hn, findU_none fun h => hn ((List.Perm.mem_iff (hp.map GU.name)).2 h)]

/-! ### How units are placed -/
theorem eraseIdx_cons_perm {α : Type} : ∀ (l : List α) (k : Nat) (h : k < l.length), (l[k] :: l.eraseIdx k).Perm l := by
  intro l
  induction l with
  | nil => intro k h; exact absurd h (Nat.not_lt_zero _)
  | cons x r ih =>
    intro k h
    cases k with
    | zero => exact List.Perm.refl _
    | succ k => exact (List.Perm.swap x _ _).trans ((ih k (by simpa using h)).cons x)
theorem idxF_cases (p : Nm → Bool) (l : List Nm) : (l.findIdx? p = none ∧ idxF p l = -1 ∧ ∀ x ∈ l, p x = false) ∨ ∃ k, ∃ h : k < l.length, l.findIdx? p = some k ∧ idxF p l = (k : Int) ∧ p l[k] = true ∧ ∀ j (hj : j < l.length), j < k → p l[j] = false := by
  unfold idxF
  cases h : l.findIdx? p with
  | none => exact .inl ⟨rfl, rfl, by simpa using h⟩
  | some k =>
    obtain ⟨h1, h2, h3⟩ := List.findIdx?_eq_some_iff_getElem.1 h
    exact .inr ⟨k, h1, rfl, rfl, h2, fun j hj hjk => by simpa using h3 j hjk⟩
/-- All of these that are placed stand behind placed ones only. -/
def Placed (beh : Nm → List Nm) (ord left : List Nm) : Prop := ∀ a n b, ord = a ++ n :: b → ∀ x ∈ beh n, x ∉ n :: b ++ left
theorem placeN_inv (beh : Nm → List Nm) : ∀ (f : Nat) (ord left : List Nm), Placed beh ord left → left.Nodup → (∀ x ∈ ord, x ∉ left) →
    Placed beh (placeN beh f ord left).1 (placeN beh f ord left).2 ∧ ((placeN beh f ord left).1 ++ (placeN beh f ord left).2).Perm (ord ++ left) ∧ (left.length ≤ f → ∀ x ∈ (placeN beh f ord left).2, freeN beh (placeN beh f ord left).2 x = false) := by
  intro f
  induction f with
  | zero =>
    intro ord left h1 _ _
    refine ⟨h1, List.Perm.refl _, fun hl x hx => ?_⟩
    have : left = [] := List.eq_nil_of_length_eq_zero (by omega)
    subst this
    cases hx
  | succ f ih =>
    intro ord left h1 h2 h3
    rcases idxF_cases (freeN beh left) left with ⟨e1, _, e3⟩ | ⟨k, hk, e1, _, e3, _⟩
    · have e5 : placeN beh (f + 1) ord left = (ord, left) := by rw [placeN, e1]
      rw [e5]
      exact ⟨h1, List.Perm.refl _, fun _ x hx => e3 x hx⟩
    · have e5 : placeN beh (f + 1) ord left = placeN beh f (ord ++ [left.getD k []]) (left.eraseIdx k) := by rw [placeN, e1]
      rw [e5]
      have hg : left.getD k [] = left[k] := by rw [List.getD, List.getElem?_eq_getElem hk]; rfl
      rw [hg]
      have hperm : (left[k] :: left.eraseIdx k).Perm left := eraseIdx_cons_perm left k hk
      have hnd := (hperm.nodup_iff).2 h2
      have hsub : ∀ x ∈ left.eraseIdx k, x ∈ left := fun x hx => hperm.mem_iff.1 (List.mem_cons_of_mem _ hx)
      have hpl : Placed beh (ord ++ [left[k]]) (left.eraseIdx k) := by
        intro a n b e x hx hm
        rcases List.eq_nil_or_concat b with rfl | ⟨b', y, e9⟩
        · have e2 : ord = a ∧ [left[k]] = [n] := List.append_inj' e rfl
          have e3' : left[k] = n := by simpa using e2.2
          subst e3'
          unfold freeN at e3
          simp only [Bool.not_eq_true', List.any_eq_false, decide_eq_true_eq] at e3
          exact e3 x hx (hperm.mem_iff.1 (by simpa using hm))
        · rw [List.concat_eq_append] at e9
          subst e9
          have e2 : ord = a ++ n :: b' ∧ [left[k]] = [y] := List.append_inj' (by rw [e]; simp) rfl
          have e3' : left[k] = y := by simpa using e2.2
          refine h1 a n b' e2.1 x hx ?_
          rcases List.mem_append.1 hm with hm | hm
          · rcases List.mem_cons.1 hm with hm | hm
            · exact List.mem_append_left _ (List.mem_cons.2 (.inl hm))
            · rcases List.mem_append.1 hm with hm | hm
              · exact List.mem_append_left _ (List.mem_cons_of_mem _ hm)
              · have : x = left[k] := by rw [e3']; simpa using hm
                exact List.mem_append_right _ (this ▸ List.getElem_mem hk)
          · exact List.mem_append_right _ (hsub x hm)
      obtain ⟨g1, g2, g3⟩ := ih (ord ++ [left[k]]) (left.eraseIdx k) hpl (List.nodup_cons.1 hnd).2 (fun x hx hm => by
        rcases List.mem_append.1 hx with hx | hx
        · exact h3 x hx (hsub x hm)
        · have : x = left[k] := by simpa using hx
          exact (List.nodup_cons.1 hnd).1 (this ▸ hm))
      refine ⟨g1, g2.trans ?_, fun hl => g3 (by rw [List.length_eraseIdx, if_pos hk]; omega)⟩
      rw [List.append_assoc]
      exact List.Perm.append_left _ hperm
/-- The order of units that can all be placed. -/
def ordU (us : List GU) : List Nm := (placeU us).1
theorem errU_ok {us : List GU} (h : errU us = 0) : us.length ≤ 16 ∧ (namesU us).Nodup ∧ badU us = false ∧ (placeU us).2 = [] := by
  unfold errU at h
  split at h
  · cases h
  · split at h
    · cases h
    · split at h
      · cases h
      · split at h
        · cases h
        · rename_i h1 h2 h3 h4
          exact ⟨by omega, Decidable.not_not.1 h2, by simpa using h3, Decidable.not_not.1 h4⟩
theorem ordU_perm {us : List GU} (h : errU us = 0) : (ordU us).Perm (namesU us) := by
  obtain ⟨_, h2, _, h4⟩ := errU_ok h
  have := (placeN_inv (aheadU us) us.length [] (sortN (namesU us)) (fun a n b e => by simp at e) (sortN_nodup.2 h2) (fun x hx => by cases hx)).2.1
  have h4' : (placeN (aheadU us) us.length [] (sortN (namesU us))).2 = [] := h4
  rw [h4', List.append_nil, List.nil_append] at this
  exact this.trans (sortN_perm _)
theorem ordU_placed {us : List GU} (h : errU us = 0) : ∀ a n b, ordU us = a ++ n :: b → ∀ x ∈ aheadU us n, x ∉ n :: b := by
  obtain ⟨_, h2, _, h4⟩ := errU_ok h
  have := (placeN_inv (aheadU us) us.length [] (sortN (namesU us)) (fun a n b e => by simp at e) (sortN_nodup.2 h2) (fun x hx => by cases hx)).1
  have h4' : (placeN (aheadU us) us.length [] (sortN (namesU us))).2 = [] := h4
  rw [h4'] at this
  intro a n b e x hx hm
  exact this a n b e x hx (by simpa using hm)
theorem mem_ahead {us : List GU} {n x : Nm} : x ∈ aheadU us n ↔ ∃ o ∈ us, standU us n o = true ∧ o.name = x := by
  unfold aheadU
  rw [mem_sortN, List.mem_map]
  constructor
  · rintro ⟨o, ho, e⟩
    have := List.mem_filter.1 ho
    exact ⟨o, this.1, this.2, e⟩
  · rintro ⟨o, h1, h2, e⟩
    exact ⟨o, List.mem_filter.2 ⟨h1, h2⟩, e⟩

/-! ### What leans, what is pulled -/
inductive LeanR (us : List GU) (some : List Nm) : Nm → Prop
  | base {n : Nm} : n ∈ namesU us → n ∈ some → LeanR us some n
  | step {u : GU} {x : Nm} : u ∈ us → (x ∈ u.re ∨ x ∈ u.pa) → LeanR us some x → LeanR us some u.name
inductive PullR (us : List GU) (some : List Nm) : Nm → Prop
  | base {n : Nm} : n ∈ namesU us → n ∈ some → PullR us some n
  | step {u : GU} {x : Nm} : u ∈ us → x ∈ u.re → PullR us some u.name → PullR us some x
/-- Just these names, in order, each once. -/
structure Just (l : List Nm) (p : Nm → Prop) : Prop where
  order : InOrder l
  once : l.Nodup
  mem : ∀ n, n ∈ l ↔ p n
theorem Just.uniq {l m : List Nm} {p : Nm → Prop} (h : Just l p) (k : Just m p) : l = m := order_ext h.order k.order h.once k.once fun x => (h.mem x).trans (k.mem x).symm
theorem LeanR.there {us : List GU} {some : List Nm} {n : Nm} (h : LeanR us some n) : n ∈ namesU us := by
  cases h with
  | base h _ => exact h
  | step hu _ _ => exact mem_names.2 ⟨_, hu, rfl⟩
end Go.Proofs.Ytnjabanjgckeoaa
