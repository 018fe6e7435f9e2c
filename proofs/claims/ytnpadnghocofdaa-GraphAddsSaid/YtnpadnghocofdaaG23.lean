/- What the law GraphAdds asks, plain: units in another order; one more that names nobody, and that nobody names. -/
import Derived.Test.YtnpadnghocofdaaG19
namespace Go.Proofs.Ytnpadnghocofdaa
open Go.RowKit
open Go.ChangeMaps (setBlock)
set_option linter.unusedVariables false
set_option linter.unusedSimpArgs false
set_option maxRecDepth 100000

theorem names_perm {us vs : List GU} (hp : us.Perm vs) : (namesU us).Perm (namesU vs) := hp.map _
theorem ahead_perm {us vs : List GU} (hp : us.Perm vs) (hd : (namesU us).Nodup) (n : Nm) : aheadU us n = aheadU vs n := by
  unfold aheadU
  have e : standU us n = standU vs n := by funext o; unfold standU; rw [findU_perm hp hd n]
  rw [e]
  exact sortN_eq ((hp.filter _).map _)
theorem lacks_perm {us vs : List GU} (hp : us.Perm vs) (hd : (namesU us).Nodup) (n : Nm) : lacksU us n = lacksU vs n := by
  unfold lacksU
  rw [findU_perm hp hd n]
  have e : (fun x => !decide (x ∈ namesU us)) = fun x => !decide (x ∈ namesU vs) := by
    funext x
    rw [decide_eq_decide.2 (names_perm hp).mem_iff]
  rw [e]
theorem place_perm {us vs : List GU} (hp : us.Perm vs) (hd : (namesU us).Nodup) : placeU us = placeU vs := by
  unfold placeU
  rw [sortN_eq (names_perm hp), hp.length_eq, show aheadU us = aheadU vs from funext (ahead_perm hp hd)]
theorem errU_perm {us vs : List GU} (hp : us.Perm vs) : errU us = errU vs := by
  unfold errU
  rw [hp.length_eq]
  split
  · rfl
  · by_cases hd : (namesU us).Nodup
    · have hd2 := (names_perm hp).nodup_iff.1 hd
      have hb : badU us = badU vs := by
        unfold badU
        rw [sortN_eq (names_perm hp), show lacksU us = lacksU vs from funext (lacks_perm hp hd)]
      rw [if_neg (show ¬ ¬ (namesU us).Nodup from fun h => h hd), if_neg (show ¬ ¬ (namesU vs).Nodup from fun h => h hd2), hb, place_perm hp hd]
    · rw [if_pos hd, if_pos (fun h => hd ((names_perm hp).nodup_iff.2 h))]
theorem ordU_same {us vs : List GU} (hp : us.Perm vs) (h : errU us = 0) : ordU us = ordU vs := by
  unfold ordU
  rw [place_perm hp (errU_ok h).2.1]

/-! ### One more -/
theorem find_split {p : Nm → Bool} : ∀ (A : List Nm) (n : Nm) (B : List Nm), (∀ x ∈ A, p x = false) → p n = true → (A ++ n :: B).findIdx? p = some A.length := by
  intro A
  induction A with
  | nil => intro n B _ hn; simp [List.findIdx?_cons, hn]
  | cons a r ih =>
    intro n B ha hn
    rw [List.cons_append, List.findIdx?_cons, ha a (List.mem_cons_self ..), ih n B (fun x hx => ha x (List.mem_cons_of_mem _ hx)) hn]
    rfl
theorem find_cases (p : Nm → Bool) (l : List Nm) : (∀ x ∈ l, p x = false) ∨ ∃ A n B, l = A ++ n :: B ∧ p n = true ∧ ∀ x ∈ A, p x = false := by
  induction l with
  | nil => exact .inl fun x hx => by cases hx
  | cons a r ih =>
    cases ha : p a with
    | true => exact .inr ⟨[], a, r, rfl, ha, fun x hx => by cases hx⟩
    | false =>
      rcases ih with h | ⟨A, n, B, rfl, h1, h2⟩
      · exact .inl fun x hx => by
          rcases List.mem_cons.1 hx with rfl | hx
          · exact ha
          · exact h x hx
      · exact .inr ⟨a :: A, n, B, rfl, h1, fun x hx => by
          rcases List.mem_cons.1 hx with rfl | hx
          · exact ha
          · exact h2 x hx⟩
theorem placeN_hit {beh : Nm → List Nm} {f : Nat} {ord A B : List Nm} {n : Nm} (hA : ∀ x ∈ A, freeN beh (A ++ n :: B) x = false) (hn : freeN beh (A ++ n :: B) n = true) : placeN beh (f + 1) ord (A ++ n :: B) = placeN beh f (ord ++ [n]) (A ++ B) := by
  rw [placeN, find_split A n B hA hn]
  have e1 : (A ++ n :: B).getD A.length [] = n := by simp [List.getD]
  have e2 : (A ++ n :: B).eraseIdx A.length = A ++ B := by
    rw [List.eraseIdx_append_of_length_le (Nat.le_refl _), Nat.sub_self]; rfl
  show placeN beh f (ord ++ [(A ++ n :: B).getD A.length []]) ((A ++ n :: B).eraseIdx A.length) = _
  rw [e1, e2]
theorem placeN_miss {beh : Nm → List Nm} {f : Nat} {ord l : List Nm} (h : ∀ x ∈ l, freeN beh l x = false) : placeN beh f ord l = (ord, l) := by
  cases f with
  | zero => rfl
  | succ f =>
    rw [placeN, List.findIdx?_eq_none_iff.2 h]
/-- All but one. -/
def butN (m : Nm) (l : List Nm) : List Nm := l.filter fun n => !decide (n = m)
theorem butN_app (m : Nm) (a b : List Nm) : butN m (a ++ b) = butN m a ++ butN m b := List.filter_append ..
theorem butN_none {m : Nm} {l : List Nm} (h : m ∉ l) : butN m l = l := List.filter_eq_self.2 fun x hx => by
  have : x ≠ m := fun e => h (e ▸ hx)
  simp [this]
theorem butN_self (m : Nm) : butN m [m] = [] := by simp [butN]
theorem butN_one {m n : Nm} (h : n ≠ m) : butN m [n] = [n] := by simp [butN, h]
theorem place_without {beh beh2 : Nm → List Nm} {m : Nm} (hb : ∀ L n, n ≠ m → freeN beh2 L n = freeN beh (butN m L) n) : ∀ (f : Nat) (ord ord2 L : List Nm), m ∉ L → butN m ord2 = ord →
    (placeN beh2 f ord2 L).2 = (placeN beh f ord L).2 ∧ butN m (placeN beh2 f ord2 L).1 = (placeN beh f ord L).1 := by
  intro f
  induction f with
  | zero => intro ord ord2 L _ h; exact ⟨rfl, h⟩
  | succ f ih =>
    intro ord ord2 L hm ho
    have hne : ∀ x ∈ L, x ≠ m := fun x hx e => hm (e ▸ hx)
    have hfr : ∀ x ∈ L, freeN beh2 L x = freeN beh L x := fun x hx => by rw [hb L x (hne x hx), butN_none hm]
    rcases find_cases (freeN beh L) L with h | ⟨A, n, B, rfl, h1, h2⟩
    · rw [placeN_miss h, placeN_miss fun x hx => (hfr x hx).trans (h x hx)]
      exact ⟨rfl, ho⟩
    · rw [placeN_hit h2 h1, placeN_hit (fun x hx => (hfr x (List.mem_append_left _ hx)).trans (h2 x hx)) ((hfr n (by simp)).trans h1)]
      refine ih _ _ _ (fun h => hm ?_) ?_
      · rcases List.mem_append.1 h with h | h
        · exact List.mem_append_left _ h
        · exact List.mem_append_right _ (List.mem_cons_of_mem _ h)
      · rw [butN_app, ho, butN_one (hne n (by simp))]
theorem place_with {beh beh2 : Nm → List Nm} {m : Nm} (hb : ∀ L n, n ≠ m → freeN beh2 L n = freeN beh (butN m L) n) (hmf : ∀ L, freeN beh2 L m = true) : ∀ (f : Nat) (ord ord2 L : List Nm), m ∈ L → L.Nodup → (butN m L).length ≤ f → butN m ord2 = ord →
    (placeN beh2 (f + 1) ord2 L).2 = (placeN beh f ord (butN m L)).2 ∧ butN m (placeN beh2 (f + 1) ord2 L).1 = (placeN beh f ord (butN m L)).1 := by
  intro f
  induction f with
  | zero =>
    intro ord ord2 L hm hd hl ho
    have e0 : butN m L = [] := List.eq_nil_of_length_eq_zero (by omega)
    rcases find_cases (freeN beh2 L) L with h | ⟨A, n, B, rfl, h1, h2⟩
    · exact absurd (h m hm) (by rw [hmf]; decide)
    · by_cases hn : n = m
      · subst hn
        have hnd := List.nodup_append.1 hd
        have hmA : n ∉ A := fun h => hnd.2.2 n h n (by simp) rfl
        have hmB : n ∉ B := (List.nodup_cons.1 hnd.2.1).1
        rw [placeN_hit h2 h1, e0]
        have e1 : A ++ B = [] := by
          rw [butN_app, show n :: B = [n] ++ B from rfl, butN_app, butN_self, butN_none hmA, butN_none hmB] at e0
          simpa using e0
        rw [e1]
        exact ⟨rfl, by show butN n (ord2 ++ [n]) = ord; rw [butN_app, butN_self, List.append_nil, ho]⟩
      · exfalso
        have : n ∈ butN m (A ++ n :: B) := List.mem_filter.2 ⟨by simp, by simp [hn]⟩
        rw [e0] at this
        cases this
  | succ f ih =>
    intro ord ord2 L hm hd hl ho
    rcases find_cases (freeN beh2 L) L with h | ⟨A, n, B, rfl, h1, h2⟩
    · exact absurd (h m hm) (by rw [hmf]; decide)
    · have hnd := List.nodup_append.1 hd
      have hmA : m ∉ A := fun h => by have := h2 m h; rw [hmf] at this; cases this
      by_cases hn : n = m
      · subst hn
        have hmB : n ∉ B := (List.nodup_cons.1 hnd.2.1).1
        rw [placeN_hit h2 h1]
        have e1 : butN n (A ++ n :: B) = A ++ B := by
          rw [butN_app, show n :: B = [n] ++ B from rfl, butN_app, butN_self, butN_none hmA, butN_none hmB]; rfl
        rw [e1]
        exact place_without hb _ _ _ _ (fun h => (List.mem_append.1 h).elim hmA hmB) (by rw [butN_app, butN_self, List.append_nil, ho])
      · have e1 : butN m (A ++ n :: B) = A ++ n :: butN m B := by
          rw [butN_app, show n :: B = [n] ++ B from rfl, butN_app, butN_one hn, butN_none hmA]; rfl
        have hmB : m ∈ B := by
          rcases List.mem_append.1 hm with h | h
          · exact absurd h hmA
          · rcases List.mem_cons.1 h with h | h
            · exact absurd h.symm hn
            · exact h
        rw [placeN_hit h2 h1, e1]
        have hf : ∀ x ∈ A, freeN beh (A ++ n :: butN m B) x = false := fun x hx => by
          rw [← e1, ← hb _ x (fun e => hmA (e ▸ hx))]; exact h2 x hx
        have hg : freeN beh (A ++ n :: butN m B) n = true := by rw [← e1, ← hb _ n hn]; exact h1
        rw [placeN_hit hf hg]
        have e2 : butN m (A ++ B) = A ++ butN m B := by rw [butN_app, butN_none hmA]
        rw [← e2]
        refine ih _ _ _ (List.mem_append_right _ hmB) (hd.sublist (List.Sublist.append_left (List.sublist_cons_self ..) _)) ?_ (by rw [butN_app, ho, butN_one hn])
        rw [e1] at hl
        rw [e2]
        simp at hl ⊢
        omega

/-- The unit that is added; units none of which names it. -/
def gM : GU := ⟨[109], [], [], [], [], [], [], 0⟩
def NoM (us : List GU) : Prop := ∀ u ∈ us, u.name ≠ [109] ∧ [109] ∉ u.af ∧ [109] ∉ u.be ∧ [109] ∉ u.re ∧ [109] ∉ u.pa
theorem NoM.names {us : List GU} (h : NoM us) : [109] ∉ namesU us := fun hm => by
  obtain ⟨u, hu, e⟩ := mem_names.1 hm
  exact (h u hu).1 e
theorem find_more {us : List GU} {n : Nm} (hn : n ≠ [109]) : findU (gM :: us) n = findU us n := by
  unfold findU
  rw [List.find?_cons, show decide (gM.name = n) = false from decide_eq_false fun e => hn e.symm]
theorem find_m (us : List GU) : findU (gM :: us) [109] = gM := rfl
theorem find_no {us : List GU} (h : NoM us) (n : Nm) : [109] ∉ (findU us n).af ∧ [109] ∉ (findU us n).re ∧ [109] ∉ (findU us n).pa := by
  by_cases hn : n ∈ namesU us
  · unfold findU
    cases e : us.find? fun u => decide (u.name = n) with
    | none => exact ⟨by simp [GU.zero], by simp [GU.zero], by simp [GU.zero]⟩
    | some u =>
      have := h u (List.mem_of_find?_eq_some e)
      exact ⟨this.2.1, this.2.2.2.1, this.2.2.2.2⟩
  · rw [findU_none hn]; exact ⟨by simp [GU.zero], by simp [GU.zero], by simp [GU.zero]⟩
theorem ahead_more {us : List GU} (h : NoM us) {n : Nm} (hn : n ≠ [109]) : aheadU (gM :: us) n = aheadU us n := by
  unfold aheadU
  have e0 : standU (gM :: us) n gM = false := by
    unfold standU
    rw [find_more hn]
    show (decide ([109] ∈ (findU us n).af) || decide ([109] ∈ (findU us n).re) || decide (n ∈ ([] : List Nm))) = false
    rw [decide_eq_false (find_no h n).1, decide_eq_false (find_no h n).2.1]
    rfl
  have e1 : ∀ o, standU (gM :: us) n o = standU us n o := fun o => by unfold standU; rw [find_more hn]
  rw [List.filter_cons, e0, show standU (gM :: us) n = standU us n from funext e1]
  rfl
theorem ahead_m {us : List GU} (h : NoM us) : aheadU (gM :: us) [109] = [] := by
  unfold aheadU
  have e : (gM :: us).filter (standU (gM :: us) [109]) = [] := List.filter_eq_nil_iff.2 fun o ho => by
    have hb : [109] ∉ o.be := by
      rcases List.mem_cons.1 ho with rfl | ho
      · simp [gM]
      · exact (h o ho).2.2.1
    unfold standU
    rw [find_m, decide_eq_false hb]
    simp [gM]
  rw [e]; rfl
theorem free_more {us : List GU} (h : NoM us) (L : List Nm) (n : Nm) (hn : n ≠ [109]) : freeN (aheadU (gM :: us)) L n = freeN (aheadU us) (butN [109] L) n := by
  unfold freeN
  rw [ahead_more h hn]
  congr 1
  rw [Bool.eq_iff_iff, List.any_eq_true, List.any_eq_true]
  have hx : ∀ x ∈ aheadU us n, (decide (x ∈ L) = true ↔ decide (x ∈ butN [109] L) = true) := fun x hx => by
    obtain ⟨o, ho, _, rfl⟩ := mem_ahead.1 hx
    have := (h o ho).1
    simp [butN, this]
  constructor
  · rintro ⟨x, h1, h2⟩; exact ⟨x, h1, (hx x h1).1 h2⟩
  · rintro ⟨x, h1, h2⟩; exact ⟨x, h1, (hx x h1).2 h2⟩
theorem free_m {us : List GU} (h : NoM us) (L : List Nm) : freeN (aheadU (gM :: us)) L [109] = true := by
  unfold freeN
  rw [ahead_m h]; rfl
theorem names_more {us : List GU} (h : NoM us) : butN [109] (sortN (namesU (gM :: us))) = sortN (namesU us) := by
  refine order_uniq ?_ (List.Pairwise.filter _ (sortN_order _)) (sortN_order _)
  refine ((sortN_perm _).filter _).trans (List.Perm.trans ?_ (sortN_perm _).symm)
  have e : (namesU (gM :: us)).filter (fun n => !decide (n = [109])) = namesU us := by
    show butN [109] ([[109]] ++ namesU us) = _
    rw [butN_app, butN_self, butN_none h.names]; rfl
  rw [e]
theorem place_more {us : List GU} (h : NoM us) (hd : (namesU us).Nodup) : (placeU (gM :: us)).2 = (placeU us).2 ∧ butN [109] (placeU (gM :: us)).1 = (placeU us).1 := by
  have hd2 : (namesU (gM :: us)).Nodup := List.nodup_cons.2 ⟨h.names, hd⟩
  have hp := place_with (beh := aheadU us) (beh2 := aheadU (gM :: us)) (m := [109]) (fun L n hn => free_more h L n hn) (free_m h) us.length [] [] (sortN (namesU (gM :: us))) (mem_sortN.2 (List.mem_cons_self ..)) (sortN_nodup.2 hd2) (by rw [names_more h, sortN_length]; unfold namesU; rw [List.length_map]; exact Nat.le_refl _) rfl
  rw [names_more h] at hp
  exact hp
theorem errU_more {us : List GU} (h : NoM us) (hl : us.length < 16) : errU (gM :: us) = errU us := by
  unfold errU
  rw [if_neg (show ¬ 16 < (gM :: us).length by rw [List.length_cons]; omega), if_neg (show ¬ 16 < us.length by omega)]
  by_cases hd : (namesU us).Nodup
  · have hd2 : (namesU (gM :: us)).Nodup := List.nodup_cons.2 ⟨h.names, hd⟩
    have hb : badU (gM :: us) = badU us := by
      unfold badU
      rw [Bool.eq_iff_iff, List.any_eq_true, List.any_eq_true]
      have hq : ∀ n ∈ namesU us, lacksU (gM :: us) n = lacksU us n := fun n hn => by
        have hne : n ≠ [109] := fun e => h.names (e ▸ hn)
        unfold lacksU
        rw [find_more hne]
        obtain ⟨_, hr, hp⟩ := find_no h n
        have hx : ∀ l : List Nm, [109] ∉ l → l.any (fun x => !decide (x ∈ namesU (gM :: us))) = l.any (fun x => !decide (x ∈ namesU us)) := fun l hl => by
          rw [Bool.eq_iff_iff, List.any_eq_true, List.any_eq_true]
          have hm : ∀ x ∈ l, (x ∈ namesU (gM :: us) ↔ x ∈ namesU us) := fun x hx => by
            have : x ≠ [109] := fun e => hl (e ▸ hx)
            show x ∈ [109] :: namesU us ↔ _
            simp [this]
          constructor
          · rintro ⟨x, h1, h2⟩; exact ⟨x, h1, by rwa [decide_eq_decide.2 (hm x h1)] at h2⟩
          · rintro ⟨x, h1, h2⟩; exact ⟨x, h1, by rwa [← decide_eq_decide.2 (hm x h1)] at h2⟩
        rw [hx _ hr, hx _ hp]
      have hm : lacksU (gM :: us) [109] = false := by unfold lacksU; rw [find_m]; rfl
      constructor
      · rintro ⟨n, h1, h2⟩
        rcases List.mem_cons.1 (mem_sortN.1 h1) with rfl | h1
        · have h3 : lacksU (gM :: us) [109] = true := h2
          rw [hm] at h3; cases h3
        · exact ⟨n, mem_sortN.2 h1, by rwa [hq n h1] at h2⟩
      · rintro ⟨n, h1, h2⟩
        exact ⟨n, mem_sortN.2 (List.mem_cons_of_mem _ (mem_sortN.1 h1)), by rwa [hq n (mem_sortN.1 h1)]⟩
    rw [if_neg (show ¬ ¬ (namesU us).Nodup from fun h => h hd), if_neg (show ¬ ¬ (namesU (gM :: us)).Nodup from fun h => h hd2), hb, (place_more h hd).1]
  · rw [if_pos hd, if_pos (show ¬ (namesU (gM :: us)).Nodup from fun h => hd (List.nodup_cons.1 h).2)]
theorem pick_more {us : List GU} (h : NoM us) (hE : errU us = 0) (hE2 : errU (gM :: us) = 0) : pick (ordU (gM :: us)) (sortN (namesU us)) = ordU us := by
  have e : butN [109] (ordU (gM :: us)) = ordU us := (place_more h (errU_ok hE).2.1).2
  rw [← e]
  unfold pick butN
  refine List.filter_congr fun x hx => ?_
  have hx' : x ∈ [109] :: namesU us := (ordU_perm hE2).mem_iff.1 hx
  rw [Bool.eq_iff_iff]
  simp only [decide_eq_true_eq, Bool.not_eq_true', decide_eq_false_iff_not, mem_sortN]
  constructor
  · exact fun h1 e => h.names (e ▸ h1)
  · exact fun h1 => (List.mem_cons.1 hx').resolve_left h1
end Go.Proofs.Ytnpadnghocofdaa
