/- Versions as plain data: digits, pieces between points, what a text says as a version, which one is newer. Of no program. -/
import Derived.Test.YtihnjhigemhknaaGreatDoorPMath
import Derived.Lib.IndexMore
import Derived.Lib.Strings
namespace Go.Proofs.YtihnjhigemhknaaGreatDoor
open Go.RowKit
set_option linter.unusedVariables false
set_option linter.unusedSimpArgs false

def digB (c : UInt8) : Bool := decide (48 ≤ c.toNat ∧ c.toNat ≤ 57)
/-- Whether digits are a number, and which one. -/
def numL (l : List UInt8) : Bool := decide (1 ≤ l.length ∧ l.length ≤ 4 ∧ ¬ (1 < l.length ∧ l.head? = some 48)) && l.all digB
def valN (l : List UInt8) : Nat := l.foldl (fun n c => 10 * n + (c.toNat - 48)) 0
theorem numL_dig {l : List UInt8} (h : numL l = true) : ∀ c ∈ l, 48 ≤ c.toNat ∧ c.toNat ≤ 57 := by
  unfold numL at h
  simp only [Bool.and_eq_true, List.all_eq_true] at h
  intro c hc
  exact of_decide_eq_true (h.2 c hc)
theorem numL_len {l : List UInt8} (h : numL l = true) : 1 ≤ l.length ∧ l.length ≤ 4 ∧ ¬ (1 < l.length ∧ l.head? = some 48) := by
  unfold numL at h
  simp only [Bool.and_eq_true, decide_eq_true_eq] at h
  exact h.1
theorem numL_no {l : List UInt8} {c : UInt8} (hm : c ∈ l) (hc : digB c = false) : numL l = false := by
  unfold numL
  rw [show l.all digB = false from List.all_eq_false.2 ⟨c, hm, by rw [hc]; decide⟩, Bool.and_false]
theorem u8_eq {a b : UInt8} (h : a.toNat = b.toNat) : a = b := UInt8.toNat_inj.1 h
/-- A number's digits are its own. -/
theorem valN_inj {a b : List UInt8} (ha : numL a = true) (hb : numL b = true) (h : valN a = valN b) : a = b := by
  have da := numL_dig ha; have db := numL_dig hb
  have la := numL_len ha; have lb := numL_len hb
  rcases a with _ | ⟨a1, _ | ⟨a2, _ | ⟨a3, _ | ⟨a4, _ | ⟨a5, a⟩⟩⟩⟩⟩ <;>
  rcases b with _ | ⟨b1, _ | ⟨b2, _ | ⟨b3, _ | ⟨b4, _ | ⟨b5, b⟩⟩⟩⟩⟩ <;>
  simp only [List.length_nil, List.length_cons, List.mem_cons, List.not_mem_nil, or_false, forall_eq_or_imp, forall_eq, valN, List.foldl_cons, List.foldl_nil, List.head?_cons, Option.some.injEq, Nat.mul_zero, Nat.zero_add] at *
  all_goals try omega
  all_goals
    have n1 : ∀ c : UInt8, c ≠ 48 → c.toNat ≠ 48 := fun c hc e => hc (u8_eq e)
    first
    | (have e1 : a1 = b1 := u8_eq (by omega)
       have e2 : a2 = b2 := u8_eq (by omega)
       have e3 : a3 = b3 := u8_eq (by omega)
       have e4 : a4 = b4 := u8_eq (by omega)
       rw [e1, e2, e3, e4])
    | (have e1 : a1 = b1 := u8_eq (by omega)
       have e2 : a2 = b2 := u8_eq (by omega)
       have e3 : a3 = b3 := u8_eq (by omega)
       rw [e1, e2, e3])
    | (have e1 : a1 = b1 := u8_eq (by omega)
       have e2 : a2 = b2 := u8_eq (by omega)
       rw [e1, e2])
    | (have e1 : a1 = b1 := u8_eq (by omega)
       rw [e1])
    | (exfalso
       first
       | (have := n1 a1 (fun e => (show False by first | exact (la.2.2 ⟨by omega, e⟩) | (exact la.2 ⟨by omega, e⟩) | (simp [e] at la))); omega)
       | (have := n1 b1 (fun e => (show False by first | exact (lb.2.2 ⟨by omega, e⟩) | (exact lb.2 ⟨by omega, e⟩) | (simp [e] at lb))); omega)
       | (have := n1 a1 (fun e => (show False by first | exact (la.2.2 ⟨by omega, e⟩) | (exact la.2 ⟨by omega, e⟩) | (simp [e] at la)))
          have := n1 b1 (fun e => (show False by first | exact (lb.2.2 ⟨by omega, e⟩) | (exact lb.2 ⟨by omega, e⟩) | (simp [e] at lb)))
          omega))

/-- The pieces between marks. -/
def bits (d : UInt8) : List UInt8 → List (List UInt8)
  | [] => [[]]
  | c :: l => if c = d then [] :: bits d l else glue [c] (bits d l)
theorem bits_ne (d : UInt8) (l : List UInt8) : bits d l ≠ [] := by
  cases l with
  | nil => simp [bits]
  | cons c l => unfold bits; split <;> simp [glue]; split <;> simp
theorem bits_length (d : UInt8) (l : List UInt8) : 1 ≤ (bits d l).length ∧ (bits d l).length ≤ l.length + 1 := by
  induction l with
  | nil => simp [bits]
  | cons c l ih =>
    unfold bits
    split
    · simp; omega
    · rw [glue_length _ (bits_ne d l)]; simp; omega
theorem index_cons (c d : UInt8) (l : List UInt8) : Lib.index (c :: l) [d] = if c = d then 0 else if Lib.index l [d] = -1 then -1 else Lib.index l [d] + 1 := by
  by_cases h : c = d
  · subst h
    rw [Lib.index]; simp [List.isPrefixOf]
  · have hp : ([d] : List UInt8).isPrefixOf (c :: l) = false := by simp [List.isPrefixOf, Ne.symm h]
    rw [Lib.index, hp, if_neg h]; simp
theorem index_no (d : UInt8) (l : List UInt8) : Lib.index l [d] = -1 ↔ d ∉ l := by
  induction l with
  | nil => simp [Lib.index]
  | cons c l ih =>
    rw [index_cons]
    have hge := Lib.index_ge l [d]
    by_cases h : c = d
    · rw [if_pos h]; subst h; simp
    · rw [if_neg h]
      by_cases h2 : Lib.index l [d] = -1
      · rw [if_pos h2]
        have := ih.1 h2
        simp [Ne.symm h, this]
      · rw [if_neg h2]
        have h3 : d ∈ l := Decidable.byContradiction fun k => h2 (ih.2 k)
        constructor
        · intro e; omega
        · intro e; exact absurd (List.mem_cons_of_mem _ h3) e
/-- The first piece, and the others. -/
theorem bits_cons (d c : UInt8) (l : List UInt8) : bits d (c :: l) = if c = d then [] :: bits d l else glue [c] (bits d l) := rfl
theorem bits_index (d : UInt8) (l : List UInt8) : bits d l = if Lib.index l [d] = -1 then [l] else l.take (Lib.index l [d]).toNat :: bits d (l.drop ((Lib.index l [d]).toNat + 1)) := by
  induction l with
  | nil => simp [bits, Lib.index]
  | cons c l ih =>
    rw [index_cons, bits_cons]
    have hge := Lib.index_ge l [d]
    by_cases h : c = d
    · rw [if_pos h, if_pos h, if_neg (by decide)]
      rfl
    · rw [if_neg h, if_neg h, ih]
      by_cases h2 : Lib.index l [d] = -1
      · rw [if_pos h2, if_pos h2, if_pos rfl]; rfl
      · rw [if_neg h2, if_neg h2, if_neg (by omega)]
        have e : (Lib.index l [d] + 1).toNat = (Lib.index l [d]).toNat + 1 := by omega
        rw [e]; rfl
theorem splitK_bits (d : UInt8) : ∀ (k : Nat) (l : List UInt8), (bits d l).length ≤ k + 1 → Lib.splitK [d] 0 k l = bits d l
  | 0, l, h => by
    rw [bits_index] at h ⊢
    split at h
    · rename_i h1; rw [if_pos h1]; rfl
    · rename_i h1
      have := bits_length d (l.drop ((Lib.index l [d]).toNat + 1))
      rw [List.length_cons] at h
      omega
  | k + 1, l, h => by
    rw [bits_index] at h ⊢
    unfold Lib.splitK
    by_cases h1 : Lib.index l [d] = -1
    · rw [if_pos h1, if_pos (beq_iff_eq.2 h1)]
    · rw [if_neg h1] at h ⊢
      rw [if_neg (fun e => h1 (beq_iff_eq.1 e))]
      rw [splitK_bits d k _ (by simpa using h)]; rfl
theorem splitK_rest (d : UInt8) : ∀ (k : Nat) (l : List UInt8), k + 1 < (bits d l).length → ∃ p ∈ Lib.splitK [d] 0 k l, d ∈ p
  | 0, l, h => by
    rw [bits_index] at h
    split at h
    · simp at h
    · rename_i h1
      exact ⟨l, by simp [Lib.splitK], Decidable.byContradiction fun k => h1 ((index_no d l).2 k)⟩
  | k + 1, l, h => by
    rw [bits_index] at h
    split at h
    · simp at h
    · rename_i h1
      obtain ⟨p, hp, hd⟩ := splitK_rest d k (l.drop ((Lib.index l [d]).toNat + 1)) (by simpa using h)
      refine ⟨p, ?_, hd⟩
      unfold Lib.splitK
      rw [if_neg (fun e => h1 (beq_iff_eq.1 e))]
      exact List.mem_cons_of_mem _ hp

/-- What a text says as a version: its numbers, its revision; what is none says nothing. -/
def frontL (l : List UInt8) : List UInt8 := (Lib.cut l [45]).1
def restL (l : List UInt8) : List UInt8 := (Lib.cut l [45]).2.1
def dashL (l : List UInt8) : Bool := (Lib.cut l [45]).2.2
def rightV (l : List UInt8) : Bool := (!dashL l || (numL (restL l) && decide (valN (restL l) ≠ 0))) && (decide ((bits 46 (frontL l)).length ≤ 4) && (bits 46 (frontL l)).all numL)
def numsV (l : List UInt8) : List Nat := if rightV l then (bits 46 (frontL l)).map valN else []
def revV (l : List UInt8) : Nat := if rightV l then (if dashL l then valN (restL l) else 0) else 0
theorem rightV_nums (l : List UInt8) : rightV l = decide (0 < (numsV l).length) := by
  unfold numsV
  by_cases h : rightV l = true
  · rw [h, if_pos rfl, List.length_map]
    have := bits_length 46 (frontL l)
    exact (decide_eq_true (by omega)).symm
  · have h : rightV l = false := by simpa using h
    rw [h]; rfl
theorem valN_le {l : List UInt8} (h : numL l = true) : valN l ≤ 9999 := by
  have da := numL_dig h; have la := numL_len h
  rcases l with _ | ⟨a1, _ | ⟨a2, _ | ⟨a3, _ | ⟨a4, _ | ⟨a5, a⟩⟩⟩⟩⟩ <;>
  simp only [List.length_nil, List.length_cons, List.mem_cons, List.not_mem_nil, or_false, forall_eq_or_imp, forall_eq, valN, List.foldl_cons, List.foldl_nil, Nat.mul_zero, Nat.zero_add] at *
  all_goals omega
theorem numsV_le (l : List UInt8) : (numsV l).length ≤ 4 ∧ ∀ n ∈ numsV l, n ≤ 9999 := by
  unfold numsV
  split
  · rename_i h
    unfold rightV at h
    simp only [Bool.and_eq_true, decide_eq_true_eq, List.all_eq_true] at h
    refine ⟨by rw [List.length_map]; exact h.2.1, fun n hn => ?_⟩
    obtain ⟨p, hp, rfl⟩ := List.mem_map.1 hn
    exact valN_le (h.2.2 p hp)
  · simp
theorem revV_le (l : List UInt8) : revV l ≤ 9999 := by
  unfold revV
  split
  · rename_i h
    split
    · rename_i h2
      unfold rightV at h
      rw [h2] at h
      simp only [Bool.not_true, Bool.false_or, Bool.and_eq_true] at h
      exact valN_le h.1.1
    · omega
  · omega

/-- Which of two is newer. -/
def cmpN (a b : Nat) : Int := if a < b then -1 else if b < a then 1 else 0
def cmpL : List Nat → List Nat → Int
  | [], [] => 0
  | [], _ :: _ => -1
  | _ :: _, [] => 1
  | a :: x, b :: y => if a = b then cmpL x y else cmpN a b
def cmpV (a b : List UInt8) : Int := if cmpL (numsV a) (numsV b) = 0 then cmpN (revV a) (revV b) else cmpL (numsV a) (numsV b)
theorem cmpN_anti (a b : Nat) : cmpN a b = - cmpN b a := by unfold cmpN; split <;> split <;> first | rfl | omega
theorem cmpL_anti : ∀ x y : List Nat, cmpL x y = - cmpL y x
  | [], [] => rfl
  | [], _ :: _ => rfl
  | _ :: _, [] => rfl
  | a :: x, b :: y => by
    unfold cmpL
    by_cases h : a = b
    · rw [if_pos h, if_pos h.symm]; exact cmpL_anti x y
    · rw [if_neg h, if_neg (Ne.symm h)]; exact cmpN_anti a b
theorem cmpV_anti (a b : List UInt8) : cmpV a b = - cmpV b a := by
  unfold cmpV
  rw [cmpL_anti (numsV a)]
  by_cases h : cmpL (numsV b) (numsV a) = 0
  · rw [if_pos (by omega), if_pos h]; exact cmpN_anti _ _
  · rw [if_neg (by omega), if_neg h]
theorem cmpN_zero {a b : Nat} (h : cmpN a b = 0) : a = b := by unfold cmpN at h; split at h; · cases h
                                                               · split at h; · cases h
                                                                 · omega
theorem cmpL_zero : ∀ {x y : List Nat}, cmpL x y = 0 → x = y
  | [], [], _ => rfl
  | a :: x, b :: y, h => by
    unfold cmpL at h
    by_cases e : a = b
    · rw [if_pos e] at h; rw [e, cmpL_zero h]
    · rw [if_neg e] at h; exact absurd (cmpN_zero h) e
theorem cmpL_self : ∀ x : List Nat, cmpL x x = 0
  | [] => rfl
  | a :: x => by unfold cmpL; rw [if_pos rfl]; exact cmpL_self x
theorem cmpN_self (a : Nat) : cmpN a a = 0 := by unfold cmpN; rw [if_neg (by omega), if_neg (by omega)]
theorem cmpV_self (a : List UInt8) : cmpV a a = 0 := by
  unfold cmpV; rw [if_pos (cmpL_self _)]; exact cmpN_self _
theorem cmpN_sign (a b : Nat) : cmpN a b = -1 ∧ a < b ∨ cmpN a b = 0 ∧ a = b ∨ cmpN a b = 1 ∧ b < a := by
  unfold cmpN
  split
  · exact .inl ⟨rfl, by assumption⟩
  · split
    · exact .inr (.inr ⟨rfl, by assumption⟩)
    · exact .inr (.inl ⟨rfl, by omega⟩)
theorem cmpL_sign : ∀ x y : List Nat, cmpL x y = -1 ∨ cmpL x y = 0 ∨ cmpL x y = 1
  | [], [] => .inr (.inl rfl)
  | [], _ :: _ => .inl rfl
  | _ :: _, [] => .inr (.inr rfl)
  | a :: x, b :: y => by
    unfold cmpL
    split
    · exact cmpL_sign x y
    · rcases cmpN_sign a b with h | h | h
      · exact .inl h.1
      · exact .inr (.inl h.1)
      · exact .inr (.inr h.1)
theorem cmpV_sign (a b : List UInt8) : cmpV a b = -1 ∨ cmpV a b = 0 ∨ cmpV a b = 1 := by
  unfold cmpV
  split
  · rcases cmpN_sign (revV a) (revV b) with h | h | h
    · exact .inl h.1
    · exact .inr (.inl h.1)
    · exact .inr (.inr h.1)
  · exact cmpL_sign _ _
/-- What is not older than what is not older than a third one is not older than this; if one of both is newer, it is, too. -/
theorem cmpL_trans : ∀ x y z : List Nat, 0 ≤ cmpL x y → 0 ≤ cmpL y z → 0 ≤ cmpL x z ∧ (cmpL x z = 0 → cmpL x y = 0 ∧ cmpL y z = 0)
  | [], [], z, _, h2 => by
    cases z with
    | nil => exact ⟨by decide, fun _ => ⟨rfl, rfl⟩⟩
    | cons c z => exact absurd h2 (by simp [cmpL])
  | [], b :: y, z, h1, _ => absurd h1 (by simp [cmpL])
  | a :: x, [], z, h1, h2 => by
    cases z with
    | nil => exact ⟨by simp [cmpL], fun h => absurd h (by simp [cmpL])⟩
    | cons c z => exact absurd h2 (by simp [cmpL])
  | a :: x, b :: y, [], h1, h2 => ⟨by simp [cmpL], fun h => absurd h (by simp [cmpL])⟩
  | a :: x, b :: y, c :: z, h1, h2 => by
    unfold cmpL at h1 h2 ⊢
    by_cases e1 : a = b
    · rw [if_pos e1] at h1 ⊢
      by_cases e2 : b = c
      · rw [if_pos e2] at h2 ⊢
        rw [if_pos (e1.trans e2)]
        exact cmpL_trans x y z h1 h2
      · rw [if_neg e2] at h2 ⊢
        rw [if_neg (by omega)]
        subst e1
        exact ⟨h2, fun h => absurd (cmpN_zero h) e2⟩
    · rw [if_neg e1] at h1 ⊢
      have s1 := cmpN_sign a b
      by_cases e2 : b = c
      · rw [if_pos e2] at h2 ⊢
        subst e2
        rw [if_neg e1]
        exact ⟨h1, fun h => absurd (cmpN_zero h) e1⟩
      · rw [if_neg e2] at h2 ⊢
        have s2 := cmpN_sign b c
        have s3 := cmpN_sign a c
        rw [if_neg (by omega)]
        refine ⟨by omega, fun h => ?_⟩
        omega
theorem cmpV_trans (a b c : List UInt8) (h1 : 0 ≤ cmpV a b) (h2 : 0 ≤ cmpV b c) : 0 ≤ cmpV a c := by
  unfold cmpV at h1 h2 ⊢
  have H1 : 0 ≤ cmpL (numsV a) (numsV b) := by
    split at h1
    · omega
    · exact h1
  have H2 : 0 ≤ cmpL (numsV b) (numsV c) := by
    split at h2
    · omega
    · exact h2
  obtain ⟨k1, k2⟩ := cmpL_trans _ _ _ H1 H2
  split
  · rename_i h3
    obtain ⟨k3, k4⟩ := k2 h3
    rw [if_pos k3] at h1
    rw [if_pos k4] at h2
    have := cmpN_sign (revV a) (revV b)
    have := cmpN_sign (revV b) (revV c)
    have := cmpN_sign (revV a) (revV c)
    omega
  · exact k1

/-- A version's text is its own. -/
theorem cut_parts (l : List UInt8) : l = if dashL l then frontL l ++ 45 :: restL l else frontL l := by
  unfold dashL frontL restL Lib.cut
  have hge := Lib.index_ge l [45]
  by_cases h : 0 ≤ Lib.index l [45]
  · rw [if_pos h]
    simp only [if_true]
    have hr := Lib.index_room l [45] h
    have : l[(Lib.index l [45]).toNat]? = some 45 := by
      clear hge
      induction l with
      | nil => simp [Lib.index] at h
      | cons c l ih =>
        rw [index_cons] at h hr ⊢
        have hge := Lib.index_ge l [45]
        by_cases h1 : c = 45
        · rw [if_pos h1]; subst h1; rfl
        · rw [if_neg h1] at h hr ⊢
          by_cases h2 : Lib.index l [45] = -1
          · rw [if_pos h2] at h; omega
          · rw [if_neg h2] at h hr ⊢
            have e : (Lib.index l [45] + 1).toNat = (Lib.index l [45]).toNat + 1 := by omega
            rw [e, List.getElem?_cons_succ]
            exact ih (by omega) (Lib.index_room l [45] (by omega))
    obtain ⟨hlt, hx⟩ := List.getElem?_eq_some_iff.1 this
    simp only [List.length_singleton]
    generalize (Lib.index l [45]).toNat = k at *
    have e : (45 : UInt8) :: l.drop (k + 1) = l.drop k := by rw [← hx]; exact List.getElem_cons_drop hlt
    rw [e, List.take_append_drop]
  · rw [if_neg h]; simp
/-- Pieces with marks between. -/
def tieM (d : UInt8) : List (List UInt8) → List UInt8
  | [] => []
  | [p] => p
  | p :: q :: r => p ++ d :: tieM d (q :: r)
theorem tieM_glue (d c : UInt8) (r : List (List UInt8)) (h : r ≠ []) : tieM d (glue [c] r) = c :: tieM d r := by
  cases r with
  | nil => exact absurd rfl h
  | cons p r =>
    cases r with
    | nil => rfl
    | cons q r => rfl
theorem tieM_bits (d : UInt8) (l : List UInt8) : tieM d (bits d l) = l := by
  induction l with
  | nil => rfl
  | cons c l ih =>
    unfold bits
    have hne := bits_ne d l
    split
    · rename_i h
      subst h
      cases hb : bits c l with
      | nil => exact absurd hb hne
      | cons p r => rw [hb] at ih; show [] ++ c :: tieM c (p :: r) = _; rw [ih]; rfl
    · rw [tieM_glue d c _ hne, ih]
theorem map_inj {ls ms : List (List UInt8)} (hl : ls.all numL = true) (hm : ms.all numL = true) (h : ls.map valN = ms.map valN) : ls = ms := by
  induction ls generalizing ms with
  | nil => cases ms with
    | nil => rfl
    | cons => cases h
  | cons a ls ih =>
    cases ms with
    | nil => cases h
    | cons b ms =>
      simp only [List.all_cons, Bool.and_eq_true, List.map_cons, List.cons.injEq] at *
      exact ⟨valN_inj hl.1 hm.1 h.1, ih hl.2 hm.2 h.2⟩
theorem cmpV_eq {a b : List UInt8} (ha : rightV a = true) (h : cmpV a b = 0) : a = b := by
  unfold cmpV at h
  have h1 : cmpL (numsV a) (numsV b) = 0 := by
    split at h
    · assumption
    · exact h
  rw [if_pos h1] at h
  have h2 := cmpL_zero h1
  have h3 := cmpN_zero h
  have hb : rightV b = true := by rw [rightV_nums, ← h2, ← rightV_nums]; exact ha
  unfold numsV at h2
  rw [if_pos ha, if_pos hb] at h2
  unfold revV at h3
  rw [if_pos ha, if_pos hb] at h3
  rw [cut_parts a, cut_parts b]
  unfold rightV at ha hb
  simp only [Bool.and_eq_true, decide_eq_true_eq, Bool.or_eq_true, Bool.not_eq_true'] at ha hb
  have h4 := map_inj ha.2.2 hb.2.2 h2
  have h5 : frontL a = frontL b := by rw [← tieM_bits 46 (frontL a), h4, tieM_bits]
  rw [h5]
  by_cases da : dashL a = true
  · rw [if_pos da] at h3 ⊢
    by_cases db : dashL b = true
    · rw [if_pos db] at h3 ⊢
      have ha1 := (ha.1.resolve_left (by rw [da]; decide)).1
      have hb1 := (hb.1.resolve_left (by rw [db]; decide)).1
      rw [valN_inj ha1 hb1 h3]
    · rw [if_neg db] at h3
      exact absurd h3 (ha.1.resolve_left (by rw [da]; decide)).2
  · rw [if_neg da] at h3 ⊢
    by_cases db : dashL b = true
    · rw [if_pos db] at h3 ⊢
      exact absurd h3.symm (hb.1.resolve_left (by rw [db]; decide)).2
    · rw [if_neg db]
end Go.Proofs.YtihnjhigemhknaaGreatDoor
