/- 'letter' and 'Name' of package path, and the reference's 'Name': each tells 'letR', 'nameL'. -/
import Derived.Test.YtnjabanjgckeoaaChecked
import Derived.Test.YtnjabanjgckeoaaPMath
import Derived.Lib.OthersKept
import Derived.Lib.Hide
import Derived.Laws.RangeAny
namespace Go.Proofs.Ytnjabanjgckeoaa
open Go.RowKit
set_option linter.unusedVariables false
set_option linter.unusedSimpArgs false

theorem letR_yes {r : Int} (h : 97 ≤ r ∧ r ≤ 122 ∨ 48 ≤ r ∧ r ≤ 57 ∨ r = 45 ∨ r = 46 ∨ r = 95) : letR r = true := decide_eq_true h
theorem letR_no {r : Int} (h : ¬ (97 ≤ r ∧ r ≤ 122 ∨ 48 ≤ r ∧ r ≤ 57 ∨ r = 45 ∨ r = 46 ∨ r = 95)) : letR r = false := decide_eq_false h
/-- The reference's Name. -/
theorem nameL_no {l : List UInt8} (h : ¬ (1 ≤ l.length ∧ l.length ≤ 12 ∧ l ≠ [46] ∧ l ≠ [46, 46])) : nameL l = false := by
  unfold nameL; rw [decide_eq_false h]; rfl
theorem nameL_yes {l : List UInt8} (h1 : 1 ≤ l.length) (h2 : l.length ≤ 12) (h3 : l ≠ [46]) (h4 : l ≠ [46, 46]) : nameL l = l.all letB := by
  unfold nameL; rw [decide_eq_true ⟨h1, h2, h3, h4⟩]; rfl
theorem letB_of (c : UInt8) : letB c = decide (97 ≤ c.toNat ∧ c.toNat ≤ 122 ∨ 48 ≤ c.toNat ∧ c.toNat ≤ 57 ∨ c.toNat = 45 ∨ c.toNat = 46 ∨ c.toNat = 95) := rfl
theorem take_all_succ (s : ByteArray) (k : Nat) (h : k < s.size) : (s.data.toList.take (k + 1)).all letB = ((s.data.toList.take k).all letB && letB s[k]) := by
  have e : s.data.toList.take (k + 1) = s.data.toList.take k ++ [s[k]] := by rw [List.take_succ_eq_append_getElem (by simpa using h)]; rfl
  rw [e]; simp
theorem all_no (s : ByteArray) (k : Nat) (h : k < s.size) (hl : letB s[k] = false) : s.data.toList.all letB = false := by
  rw [List.all_eq_false]
  exact ⟨s[k], by show s.data.toList[k]'(by simpa using h) ∈ _; exact List.getElem_mem _, by rw [hl]; decide⟩
/-- The four tests ahead. -/
theorem name_front (s : ByteArray) : (1 ≤ s.size ∧ s.size ≤ 12 ∧ (s.toList == [46]) = false ∧ (s.toList == [46, 46]) = false) ∨ nameL s.data.toList = false ∧ (s.size < 1 ∨ 12 < s.size ∨ (s.toList == [46]) = true ∧ s.size = 1 ∨ (s.toList == [46, 46]) = true ∧ s.size = 2 ∧ (s.toList == [46]) = false) := by
  have e := Lib.size_eq s
  rw [Lib.toList_data]
  generalize s.data.toList = l at *
  by_cases h1 : 1 ≤ s.size
  · by_cases h2 : s.size ≤ 12
    · by_cases h3 : l = [46]
      · refine .inr ⟨nameL_no (by simp [h3]), .inr (.inr (.inl ⟨beq_iff_eq.2 h3, by rw [e, h3]; rfl⟩))⟩
      · by_cases h4 : l = [46, 46]
        · refine .inr ⟨nameL_no (by simp [h4]), .inr (.inr (.inr ⟨beq_iff_eq.2 h4, by rw [e, h4]; rfl, by simp [h3]⟩))⟩
        · exact .inl ⟨h1, h2, by simp [h3], by simp [h4]⟩
    · exact .inr ⟨nameL_no (by omega), .inr (.inl (by omega))⟩
  · exact .inr ⟨nameL_no (by omega), .inl (by omega)⟩
theorem name_all {s : ByteArray} (h1 : 1 ≤ s.size) (h2 : s.size ≤ 12) (h3 : (s.toList == [46]) = false) (h4 : (s.toList == [46, 46]) = false) : nameL s.data.toList = s.data.toList.all letB := by
  rw [Lib.toList_data] at h3 h4
  have e := Lib.size_eq s
  exact nameL_yes (by omega) (by omega) (by simpa using h3) (by simpa using h4)
end Go.Proofs.Ytnjabanjgckeoaa
