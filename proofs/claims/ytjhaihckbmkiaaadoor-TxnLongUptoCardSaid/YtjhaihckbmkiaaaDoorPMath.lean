/- Paths as plain data: names, the pieces between slashes, whether a text is a path, and its names. Of no program. -/
import Derived.Test.YtjhaihckbmkiaaaDoorKRec0
import Derived.Lib.SplitLaws
import Derived.Lib.Join
import Derived.Laws.RangeAny
namespace Go.Proofs.YtjhaihckbmkiaaaDoor
open Go.RowKit
set_option linter.unusedVariables false
set_option linter.unusedSimpArgs false

/-- A text's bytes, and the text that bytes are. -/
abbrev toB (l : List UInt8) : ByteArray := ⟨l.toArray⟩
theorem toB_bytes (s : ByteArray) : toB s.data.toList = s := rfl
theorem toB_size (l : List UInt8) : (toB l).size = l.length := by simp [ByteArray.size]
theorem toB_inj {a b : List UInt8} (h : toB a = toB b) : a = b := by
  have := congrArg (fun s : ByteArray => s.data.toList) h
  simpa using this

def letB (c : UInt8) : Bool := decide (97 ≤ c.toNat ∧ c.toNat ≤ 122 ∨ 48 ≤ c.toNat ∧ c.toNat ≤ 57 ∨ c.toNat = 45 ∨ c.toNat = 46 ∨ c.toNat = 95)
def letR (r : Int) : Bool := decide (97 ≤ r ∧ r ≤ 122 ∨ 48 ≤ r ∧ r ≤ 57 ∨ r = 45 ∨ r = 46 ∨ r = 95)
theorem letR_low (c : UInt8) : letR (c.toNat : Int) = letB c := by
  unfold letR letB
  rw [Bool.eq_iff_iff, decide_eq_true_iff, decide_eq_true_iff]; omega
theorem letR_high (r : Int) (h : 128 ≤ r) : letR r = false := by
  unfold letR; rw [decide_eq_false_iff_not]; omega
theorem letB_high (c : UInt8) (h : 128 ≤ c.toNat) : letB c = false := by
  unfold letB; rw [decide_eq_false_iff_not]; omega
theorem letB_slash : letB 47 = false := by decide

def nameL (l : List UInt8) : Bool := decide (1 ≤ l.length ∧ l.length ≤ 12 ∧ l ≠ [46] ∧ l ≠ [46, 46]) && l.all letB
theorem nameL_no_slash {l : List UInt8} (h : nameL l = true) : (47 : UInt8) ∉ l := by
  unfold nameL at h
  simp only [Bool.and_eq_true, List.all_eq_true] at h
  intro hm
  have := h.2 47 hm
  rw [letB_slash] at this; cases this

/-- A piece ahead of the first of pieces. -/
def glue (p : List UInt8) : List (List UInt8) → List (List UInt8)
  | [] => [p]
  | q :: r => (p ++ q) :: r
/-- The pieces between slashes. -/
def partsL : List UInt8 → List (List UInt8)
  | [] => [[]]
  | c :: l => if c = 47 then [] :: partsL l else glue [c] (partsL l)
theorem partsL_ne (l : List UInt8) : partsL l ≠ [] := by
  cases l with
  | nil => simp [partsL]
  | cons c l => unfold partsL; split <;> simp [glue]; split <;> simp
theorem glue_nil {r : List (List UInt8)} (h : r ≠ []) : glue [] r = r := by
  cases r with
  | nil => exact absurd rfl h
  | cons a r => rfl
theorem glue_glue (a b : List UInt8) (r : List (List UInt8)) : glue a (glue b r) = glue (a ++ b) r := by
  cases r <;> simp [glue]
theorem glue_length (a : List UInt8) {r : List (List UInt8)} (h : r ≠ []) : (glue a r).length = r.length := by
  cases r with
  | nil => exact absurd rfl h
  | cons b r => rfl
theorem partsL_length (l : List UInt8) : 1 ≤ (partsL l).length ∧ (partsL l).length ≤ l.length + 1 := by
  induction l with
  | nil => simp [partsL]
  | cons c l ih =>
    unfold partsL
    split
    · simp; omega
    · rw [glue_length _ (partsL_ne l)]; simp; omega
theorem parts_le (l : List UInt8) : ∀ p ∈ partsL l, p.length ≤ l.length := by
  induction l with
  | nil => simp [partsL]
  | cons c l ih =>
    unfold partsL
    split
    · intro p hp
      rcases List.mem_cons.1 hp with rfl | hp
      · simp
      · have := ih p hp; simp; omega
    · have hne := partsL_ne l
      generalize partsL l = r at *
      cases r with
      | nil => exact absurd rfl hne
      | cons q r =>
        intro p hp
        rcases List.mem_cons.1 hp with rfl | hp
        · have := ih q (List.mem_cons_self ..); simp; omega
        · have := ih p (List.mem_cons_of_mem _ hp); simp; omega
theorem splitK_parts (l : List UInt8) : Lib.splitK [47] 0 (Lib.count l [47]) l = partsL l := by
  have main : ∀ (c : UInt8) (l : List UInt8), c ≠ 47 → ∀ k, Lib.splitK [47] 0 k (c :: l) = glue [c] (Lib.splitK [47] 0 k l) := by
    intro c l hc k
    cases k with
    | zero => rfl
    | succ k =>
      have hp : ([47] : List UInt8).isPrefixOf (c :: l) = false := by simp [List.isPrefixOf, Ne.symm hc]
      have hix : Lib.index (c :: l) [47] = if Lib.index l [47] == -1 then -1 else Lib.index l [47] + 1 := by rw [Lib.index, hp]; simp
      by_cases hm : Lib.index l [47] = -1
      · unfold Lib.splitK
        rw [hix, hm]; rfl
      · have hge := Lib.index_ge l [47]
        obtain ⟨j, hj⟩ : ∃ j : Nat, Lib.index l [47] = j := ⟨(Lib.index l [47]).toNat, by omega⟩
        have h1 : ¬ ((j : Int) == -1) = true := fun e => by have := beq_iff_eq.1 e; omega
        have h2 : ¬ ((j : Int) + 1 == -1) = true := fun e => by have := beq_iff_eq.1 e; omega
        unfold Lib.splitK
        rw [hix, hj, if_neg h1, if_neg h2]
        have e1 : ((j : Int) + 1).toNat = j + 1 := by omega
        rw [e1]
        simp only [Int.toNat_natCast, Nat.add_zero, List.length_singleton, List.take_succ_cons, List.drop_succ_cons, glue, h1]
        rfl
  induction l with
  | nil => rw [Lib.count_miss (by simp [Lib.index])]; rfl
  | cons c l ih =>
    by_cases hc : c = 47
    · subst hc
      rw [Lib.count_cons_eq, Nat.add_comm]
      have hix : Lib.index (47 :: l) [47] = 0 := by rw [Lib.index]; simp [List.isPrefixOf]
      unfold Lib.splitK partsL
      rw [hix, if_pos rfl, ← ih]; rfl
    · rw [Lib.count_cons_ne c 47 l hc, main c l hc, ih]
      unfold partsL
      rw [if_neg hc]
      cases l <;> rfl

/-- Whether a text is a path, and its names. -/
def okP (l : List UInt8) : Bool := decide (l = [47]) || (decide (l.length ≤ 40) && decide (l.head? = some 47) && decide ((partsL l.tail).length ≤ 5) && (partsL l.tail).all nameL)
def namesL (l : List UInt8) : List (List UInt8) := if l = [47] then [] else if okP l then partsL l.tail else []

theorem splitB_parts (s sep : ByteArray) (h : sep = toB [47]) : Lib.splitB sep 0 (Lib.countB s sep) s = (partsL s.data.toList).map toB := by
  subst h
  have h1 := Lib.splitB_data (toB [47]) 0 (Lib.countB s (toB [47])) s
  have h2 : Lib.countB s (toB [47]) = Lib.count s.data.toList [47] := rfl
  rw [h2] at h1 ⊢
  rw [splitK_parts] at h1
  rw [← h1, List.map_map]
  exact (List.map_id' _).symm
end Go.Proofs.YtjhaihckbmkiaaaDoor
