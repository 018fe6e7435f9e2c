/- 'letter' and 'Name' of package path, and the reference's 'Name': each tells 'letR', 'nameL'. -/
import Derived.Test.YtjhaihckbmkiaaaDoorChecked
import Derived.Test.YtjhaihckbmkiaaaDoorPMath
import Derived.Lib.OthersKept
import Derived.Lib.Hide
import Derived.Laws.RangeAny
namespace Go.Proofs.YtjhaihckbmkiaaaDoor
open Go.RowKit
set_option linter.unusedVariables false
set_option linter.unusedSimpArgs false

theorem letR_yes {r : Int} (h : 97 ≤ r ∧ r ≤ 122 ∨ 48 ≤ r ∧ r ≤ 57 ∨ r = 45 ∨ r = 46 ∨ r = 95) : letR r = true := decide_eq_true h
theorem letR_no {r : Int} (h : ¬ (97 ≤ r ∧ r ≤ 122 ∨ 48 ≤ r ∧ r ≤ 57 ∨ r = 45 ∨ r = 46 ∨ r = 95)) : letR r = false := decide_eq_false h
theorem letter_any (r : Int) (w : World) : Calls Tryd.prog 37 #[.int .i32 r] w fun e w' => e = .returned (.bool (letR r)) ∧ w = w' := by
  go_enter Tryd.func37, Tryd.ntmps37
  go_wp2
  all_goals
    go_ret
    refine ⟨?_, rfl⟩
    try simp only [beq_iff_eq, beq_eq_false_iff_ne, ne_eq] at *
    first
      | (have h := letR_yes (r := r) (by omega); rw [h]; rfl)
      | (have h := letR_no (r := r) (by omega); rw [h]; rfl)

/-- The reference's Name. -/
theorem nameL_no {l : List UInt8} (h : ¬ (1 ≤ l.length ∧ l.length ≤ 12 ∧ l ≠ [46] ∧ l ≠ [46, 46])) : nameL l = false := by
  unfold nameL; rw [decide_eq_false h]; rfl
theorem nameL_yes {l : List UInt8} (h1 : 1 ≤ l.length) (h2 : l.length ≤ 12) (h3 : l ≠ [46]) (h4 : l ≠ [46, 46]) : nameL l = l.all letB := by
  unfold nameL; rw [decide_eq_true ⟨h1, h2, h3, h4⟩]; rfl
theorem letB_of (c : UInt8) : letB c = decide (97 ≤ c.toNat ∧ c.toNat ≤ 122 ∨ 48 ≤ c.toNat ∧ c.toNat ≤ 57 ∨ c.toNat = 45 ∨ c.toNat = 46 ∨ c.toNat = 95) := rfl
theorem take_all_succ (s : ByteArray) (k : Nat) (h : k < s.size) : (s.data.toList.take (k + 1)).all letB = ((s.data.toList.take k).all letB && letB s[k]) := by
  have e : s.data.toList.take (k + 1) = s.data.toList.take k ++ [s[k]] := by rw [List.take_succ_eq_append_getElem (by simpa using h)]; rfl
  rw [e]; simp
theorem all_no (s : ByteArray) (k : Nat) (h : k < s.size) (hl : letB s[k] = false) : s.data.toList.all letB = false := by
  rw [List.all_eq_false]
  exact ⟨s[k], by show s.data.toList[k]'(by simpa using h) ∈ _; exact List.getElem_mem _, by rw [hl]; decide⟩
/-- The four tests ahead. -/
theorem name_front (s : ByteArray) : (1 ≤ s.size ∧ s.size ≤ 12 ∧ (s.toList == [46]) = false ∧ (s.toList == [46, 46]) = false) ∨ nameL s.data.toList = false ∧ (s.size < 1 ∨ 12 < s.size ∨ (s.toList == [46]) = true ∧ s.size = 1 ∨ (s.toList == [46, 46]) = true ∧ s.size = 2 ∧ (s.toList == [46]) = false) := by
  have e := Lib.size_eq s
  rw [Lib.toList_data]
  generalize s.data.toList = l at *
  by_cases h1 : 1 ≤ s.size
  · by_cases h2 : s.size ≤ 12
    · by_cases h3 : l = [46]
      · refine .inr ⟨nameL_no (by simp [h3]), .inr (.inr (.inl ⟨beq_iff_eq.2 h3, by rw [e, h3]; rfl⟩))⟩
      · by_cases h4 : l = [46, 46]
        · refine .inr ⟨nameL_no (by simp [h4]), .inr (.inr (.inr ⟨beq_iff_eq.2 h4, by rw [e, h4]; rfl, by simp [h3]⟩))⟩
        · exact .inl ⟨h1, h2, by simp [h3], by simp [h4]⟩
    · exact .inr ⟨nameL_no (by omega), .inr (.inl (by omega))⟩
  · exact .inr ⟨nameL_no (by omega), .inl (by omega)⟩
theorem name_all {s : ByteArray} (h1 : 1 ≤ s.size) (h2 : s.size ≤ 12) (h3 : (s.toList == [46]) = false) (h4 : (s.toList == [46, 46]) = false) : nameL s.data.toList = s.data.toList.all letB := by
  rw [Lib.toList_data] at h3 h4
  have e := Lib.size_eq s
  exact nameL_yes (by omega) (by omega) (by simpa using h3) (by simpa using h4)
set_option maxHeartbeats 1000000 in
theorem refname_any (s : ByteArray) (w : World) (hs : s.size ≤ maxLen) : Calls Tryd.prog 19 #[.string s] w fun e w' => e = .returned (.bool (nameL s.data.toList)) ∧ w = w' := by
  unfold maxLen at hs
  rcases name_front s with ⟨h1, h2, h3, h4⟩ | ⟨hn, hh⟩
  · have HN := Lib.hid (name_all h1 h2 h3 h4)
    go_enter Tryd.func19, Tryd.ntmps19
    go_wp2
    go_loop [3] (fun i => ∃ k : Nat, k ≤ s.size ∧ i = .int .i64 k ∧ Hid ((s.data.toList.take k).all letB = true)) (fun i => s.size - (intOf i).toNat)
    case atStart => exact ⟨0, Nat.zero_le _, rfl, rfl⟩
    case round =>
      obtain ⟨k, hk, rfl, HA⟩ := hrel
      by_cases hlt : k < s.size
      · have HS := Lib.hid (take_all_succ s k hlt)
        have HF := Lib.hid (all_no s k hlt)
        have HB := Lib.hid (letB_of s[k])
        go_wp2
        all_goals
          first
          | (go_ret
             refine ⟨?_, rfl⟩
             have hL : letB s[k] = false := by
               rw [HB.out]
               refine decide_eq_false ?_
               simp only [Bool.not_eq_true', Bool.not_eq_false', beq_iff_eq, beq_eq_false_iff_ne, decide_eq_true_eq, decide_eq_false_iff_not, ne_eq] at *
               omega
             rw [HN.out, HF.out hL]; rfl)
          | (have hL : letB s[k] = true := by
               rw [HB.out]
               refine decide_eq_true ?_
               simp only [Bool.not_eq_true', Bool.not_eq_false', beq_iff_eq, beq_eq_false_iff_ne, decide_eq_true_eq, decide_eq_false_iff_not, ne_eq] at *
               omega
             go_round
             case rel => exact ⟨k + 1, by omega, by go_num, by show (s.data.toList.take (k + 1)).all letB = true; rw [HS.out, HA.out, hL]; rfl⟩
             case measure => simp [intOf]; omega)
      · have HT := Lib.hid (show s.data.toList.take k = s.data.toList from List.take_of_length_le (by rw [← Lib.size_eq]; omega))
        go_wp2
        go_ret
        refine ⟨?_, rfl⟩
        rw [HN.out, ← HT.out, HA.out]; rfl
  · rw [hn]
    rcases hh with h | h | ⟨h, h'⟩ | ⟨h, h', h''⟩
    all_goals
      go_enter Tryd.func19, Tryd.ntmps19
      go_wp2
      go_ret
      exact ⟨rfl, rfl⟩
end Go.Proofs.YtjhaihckbmkiaaaDoor
