/- What the law GraphOrders asks, plain. -/
import Derived.Test.YtnjabanjgckeoaaG18
namespace Go.Proofs.Ytnjabanjgckeoaa
open Go.RowKit
open Go.ChangeMaps (setBlock)
set_option linter.unusedVariables false
set_option linter.unusedSimpArgs false
set_option maxRecDepth 100000

/-- Names with their places (from 1 on), as a map's entries. -/
def entsI : Nat → List Nm → List (Nm × Value)
  | _, [] => []
  | i, n :: r => (n, .int .i64 ((i : Int) + 1)) :: entsI (i + 1) r
theorem entsI_snoc (l : List Nm) (n : Nm) : ∀ i, entsI i (l ++ [n]) = entsI i l ++ [(n, .int .i64 (((i + l.length : Nat) : Int) + 1))] := by
  induction l with
  | nil => intro i; rfl
  | cons a r ih =>
    intro i
    rw [List.cons_append]
    simp only [entsI, List.cons_append]
    rw [ih (i + 1), List.length_cons, show i + 1 + r.length = i + (r.length + 1) from by omega]
theorem entsI_keys (l : List Nm) : ∀ i, (entsI i l).map (·.1) = l := by
  induction l with
  | nil => intro i; rfl
  | cons a r ih => intro i; simp only [entsI, List.map_cons, ih]
theorem entsI_len (l : List Nm) (i : Nat) : (entsI i l).length = l.length := by
  have := congrArg List.length (entsI_keys l i)
  simpa using this
/-- Where a name stands, from 1 on; 0: nowhere. -/
def posN (l : List Nm) (x : Nm) : Nat := match l.findIdx? (fun y => decide (y = x)) with
  | none => 0
  | some k => k + 1
theorem look_entsI (l : List Nm) (x : Nm) : ∀ i, (look (entsI i l) x).getD (.int .i64 0) = .int .i64 (if posN l x = 0 then 0 else ((i + posN l x : Nat) : Int)) := by
  induction l with
  | nil => intro i; rfl
  | cons a r ih =>
    intro i
    simp only [entsI]
    by_cases h : a = x
    · have e : posN (a :: r) x = 1 := by unfold posN; rw [List.findIdx?_cons, decide_eq_true h]; rfl
      unfold look
      rw [if_pos h, e]; simp
    · have e : posN (a :: r) x = if posN r x = 0 then 0 else posN r x + 1 := by
        unfold posN
        rw [List.findIdx?_cons, decide_eq_false h]
        cases r.findIdx? (fun y => decide (y = x)) <;> simp
      have e2 : look ((a, Value.int .i64 ((i : Int) + 1)) :: entsI (i + 1) r) x = look (entsI (i + 1) r) x := by conv => lhs; unfold look; rw [if_neg h]
      rw [e2, ih (i + 1), e]
      by_cases h0 : posN r x = 0
      · rw [if_pos h0, if_pos h0, if_pos rfl]
      · rw [if_neg h0, if_neg h0, if_neg (by omega)]
        congr 2
        omega
theorem posN_at {l : List Nm} {x : Nm} {k : Nat} (h : posN l x = k + 1) : ∃ hk : k < l.length, l[k] = x := by
  unfold posN at h
  cases hf : l.findIdx? (fun y => decide (y = x)) with
  | none => rw [hf] at h; cases h
  | some j =>
    rw [hf] at h
    have h' : j + 1 = k + 1 := h
    obtain rfl : j = k := by omega
    obtain ⟨h1, h2, _⟩ := List.findIdx?_eq_some_iff_getElem.1 hf
    exact ⟨h1, by simpa using h2⟩
theorem posN_mem {l : List Nm} {x : Nm} : posN l x ≠ 0 ↔ x ∈ l := by
  constructor
  · intro h
    obtain ⟨k, hk⟩ := Nat.exists_eq_succ_of_ne_zero h
    obtain ⟨h1, h2⟩ := posN_at hk
    exact h2 ▸ List.getElem_mem h1
  · intro h
    unfold posN
    cases hf : l.findIdx? (fun y => decide (y = x)) with
    | none =>
      have := List.findIdx?_eq_none_iff.1 hf x h
      simp at this
    | some j => simp
/-- One that is to stand ahead stands ahead. -/
theorem pos_lt {us : List GU} (h : errU us = 0) {n x : Nm} (hn : n ∈ namesU us) (hx : x ∈ aheadU us n) : posN (ordU us) x < posN (ordU us) n := by
  have hp := ordU_perm h
  have hno : n ∈ ordU us := hp.mem_iff.2 hn
  have hnd : (ordU us).Nodup := (hp.nodup_iff).2 (errU_ok h).2.1
  have h1 := posN_mem.2 hno
  obtain ⟨k, hk⟩ := Nat.exists_eq_succ_of_ne_zero h1
  obtain ⟨hkl, hke⟩ := posN_at hk
  rcases Nat.eq_zero_or_pos (posN (ordU us) x) with h0 | h0
  · omega
  · obtain ⟨j, hj⟩ := Nat.exists_eq_succ_of_ne_zero (Nat.ne_of_gt h0)
    obtain ⟨hjl, hje⟩ := posN_at hj
    rw [hk, hj]
    rcases Nat.lt_or_ge j k with h2 | h2
    · omega
    · exfalso
      have hsp : ordU us = (ordU us).take k ++ n :: (ordU us).drop (k + 1) := by
        rw [← hke, ← List.drop_eq_getElem_cons hkl, List.take_append_drop]
      refine ordU_placed h _ _ _ hsp x hx ?_
      rw [← hke, ← List.drop_eq_getElem_cons hkl, ← hje]
      rw [List.mem_iff_getElem]
      exact ⟨j - k, by rw [List.length_drop]; omega, by rw [List.getElem_drop]; congr 1; omega⟩
theorem ord_after {us : List GU} (h : errU us = 0) {u : GU} (hu : u ∈ us) {x : Nm} (hx : x ∈ u.af ++ u.re) : posN (ordU us) x < posN (ordU us) u.name := by
  have hn : u.name ∈ namesU us := mem_names.2 ⟨u, hu, rfl⟩
  by_cases hxn : x ∈ namesU us
  · obtain ⟨o, ho, hox⟩ := mem_names.1 hxn
    refine pos_lt h hn (mem_ahead.2 ⟨o, ho, ?_, hox⟩)
    unfold standU
    rw [findU_mem (errU_ok h).2.1 hu, hox]
    rcases List.mem_append.1 hx with hx | hx
    · rw [decide_eq_true hx]; rfl
    · rw [decide_eq_true hx]; simp
  · have h0 : posN (ordU us) x = 0 := by
      rcases Nat.eq_zero_or_pos (posN (ordU us) x) with h0 | h0
      · exact h0
      · exact absurd ((ordU_perm h).mem_iff.1 (posN_mem.1 (Nat.ne_of_gt h0))) hxn
    have h1 := posN_mem.2 ((ordU_perm h).mem_iff.2 hn)
    omega
theorem ord_before {us : List GU} (h : errU us = 0) {u : GU} (hu : u ∈ us) {x : Nm} (hx : x ∈ u.be) (h0 : posN (ordU us) x ≠ 0) : posN (ordU us) u.name < posN (ordU us) x := by
  have hxn : x ∈ namesU us := (ordU_perm h).mem_iff.1 (posN_mem.1 h0)
  refine pos_lt h hxn (mem_ahead.2 ⟨u, hu, ?_, rfl⟩)
  unfold standU
  rw [decide_eq_true hx]; simp
theorem pick_all {us : List GU} (h : errU us = 0) : pick (ordU us) (sortN (namesU us)) = ordU us :=
  List.filter_eq_self.2 fun x hx => by
    rw [decide_eq_true_eq, mem_sortN]
    exact (ordU_perm h).mem_iff.1 hx
theorem zero_int (w : World) : (zeroValue 3).run Try.prog w = .ok (.int .i64 0) w := by
  rw [Try.zeroValue3]
end Go.Proofs.Ytnjabanjgckeoaa
