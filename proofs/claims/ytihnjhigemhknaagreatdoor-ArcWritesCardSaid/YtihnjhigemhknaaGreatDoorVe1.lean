/- A number of package ver: digits that are looked for by a closure, and their value. -/
import Derived.Test.YtihnjhigemhknaaGreatDoorChecked
import Derived.Test.YtihnjhigemhknaaGreatDoorVe0
import Derived.Test.YtihnjhigemhknaaGreatDoorShelf
import Derived.Shelf.GgClosure.GivesRunes
import Derived.Lib.AtoiErrMem
import Derived.Lib.OthersKept
import Derived.Lib.Hide
import Derived.Laws.RangeAny
namespace Go.Proofs.YtihnjhigemhknaaGreatDoor
open Go.RowKit
set_option linter.unusedVariables false
set_option linter.unusedSimpArgs false

/-- What is no digit. -/
def noDig (n : Nat) : Bool := decide (n < 48 ∨ 57 < n)
theorem noDig_yes {n : Nat} (h : n < 48 ∨ 57 < n) : noDig n = true := decide_eq_true h
theorem noDig_no {n : Nat} (h : ¬ (n < 48 ∨ 57 < n)) : noDig n = false := decide_eq_false h
theorem noDig_any (r : Nat) (w : World) : FnGives Tryz.prog 82 #[] #[.int .i32 r] (.bool (noDig r)) w := by
  show Calls Tryz.prog 82 #[.int .i32 r] w _
  have HE := Lib.hid (show (decide ((r : Int) < 48) || decide ((57 : Int) < r)) = noDig r by
    unfold noDig
    rw [Bool.eq_iff_iff]
    simp only [Bool.or_eq_true, decide_eq_true_eq]
    omega)
  go_enter Tryz.func82, Tryz.ntmps82
  go_wp2
  all_goals
    go_ret
    refine ⟨?_, 0, rfl⟩
    rw [← HE.out]
    first
    | rfl
    | (rename_i hx; first | (rw [decide_eq_true hx]; rfl) | (rw [decide_eq_false (show ¬ (r : Int) < 48 by omega)]; rfl))
theorem digB_low (c : UInt8) (h : c.toNat < 128) : noDig c.toNat = !digB c := by
  unfold noDig digB
  rw [Bool.eq_iff_iff]
  simp only [decide_eq_true_eq, Bool.not_eq_true', decide_eq_false_iff_not]
  omega
theorem digB_high (c : UInt8) (h : 128 ≤ c.toNat) : digB c = false := by
  unfold digB; rw [decide_eq_false_iff_not]; omega
theorem bytes_all (f : UInt8 → Bool) (s : ByteArray) (h : ∀ j (hj : j < s.size), f s[j] = true) : s.data.toList.all f = true := by
  rw [List.all_eq_true]
  intro x hx
  obtain ⟨j, hj, rfl⟩ := List.getElem_of_mem hx
  exact h j (by rw [Lib.size_eq]; exact hj)
theorem bytes_no (f : UInt8 → Bool) (s : ByteArray) (j : Nat) (hj : j < s.size) (h : f s[j] = false) : s.data.toList.all f = false := by
  rw [List.all_eq_false]
  exact ⟨s[j], by show s.data.toList[j]'(by simpa using hj) ∈ _; exact List.getElem_mem _, by rw [h]; decide⟩
theorem idxFrom_dig (s : ByteArray) : ∀ (f pos : Nat), s.size ≤ pos + f → (∀ j (h : j < s.size), j < pos → digB s[j] = true) → decide (0 ≤ Lib.idxFuncFrom noDig true s f pos) = !(s.data.toList.all digB)
  | 0, pos, hf, hd => by
    rw [bytes_all digB s fun j hj => hd j hj (by omega)]; rfl
  | f + 1, pos, hf, hd => by
    by_cases hp : pos < s.size
    · unfold Lib.idxFuncFrom
      rw [if_pos hp]
      by_cases ha : (s[pos]'hp).toNat < 128
      · rw [decode_ascii s pos hp ha]
        dsimp only
        rw [digB_low _ ha]
        by_cases hg : digB s[pos] = true
        · rw [hg]
          simp only [Bool.not_true, Bool.false_eq_true, if_false]
          refine idxFrom_dig s f (pos + 1) (by omega) fun j hj hlt => ?_
          by_cases e : j = pos
          · subst e; exact hg
          · exact hd j hj (by omega)
        · have hg : digB s[pos] = false := by simpa using hg
          rw [hg, bytes_no digB s pos hp hg]
          simp
      · have h1 := (decode_high s pos hp (by omega)).1
        rw [noDig_yes (by omega), if_pos rfl, bytes_no digB s pos hp (digB_high _ (by omega))]
        simp
    · rw [Lib.idxFuncFrom_end _ _ _ _ _ hp, bytes_all digB s fun j hj => hd j hj (by omega)]; rfl
theorem has_noDig (s : ByteArray) (w : World) : Calls Tryz.prog 83 #[.string s, .func (.func 82) #[] #[]] w fun e w' => e = .returned (.bool (!(s.data.toList.all digB))) ∧ Below w.heap.size w w' := by
  have h := Tryz.strings_ContainsFunc_runes 82 #[] (enters_of Tryz.func82 (by kernel_rfl) rfl) noDig s w (fun W x hx hb => noDig_any x W)
  refine h.mono ?_
  rintro e w' ⟨rfl, hb⟩
  refine ⟨?_, hb⟩
  unfold Lib.idxFunc
  rw [idxFrom_dig s s.size 0 (by omega) (fun j hj hlt => absurd hlt (by omega))]

theorem decFrom_dig (l : List UInt8) (h : ∀ c ∈ l, 48 ≤ c.toNat ∧ c.toNat ≤ 57) : ∀ acc, Lib.decFrom acc l = some (l.foldl (fun n c => 10 * n + (c.toNat - 48)) acc) := by
  induction l with
  | nil => intro acc; rfl
  | cons c l ih =>
    intro acc
    unfold Lib.decFrom Lib.digitVal
    rw [if_pos (h c (List.mem_cons_self ..))]
    dsimp only
    rw [ih (fun x hx => h x (List.mem_cons_of_mem _ hx)), List.foldl_cons, Nat.mul_comm]
theorem atoi_num {l : List UInt8} (h : numL l = true) : Lib.atoi l = some (valN l : Int) := by
  have hd := numL_dig h
  have hl := numL_len h
  cases l with
  | nil => simp at hl
  | cons b r =>
    have hb := hd b (List.mem_cons_self ..)
    show (if b == 45 then (Lib.decNat r).map fun (m : Nat) => -(m : Int) else if b == 43 then (Lib.decNat r).map fun (m : Nat) => (m : Int) else (Lib.decNat (b :: r)).map fun (m : Nat) => (m : Int)) = _
    have h1 : ¬ (b == 45) = true := fun e => by have := beq_iff_eq.1 e; subst this; exact absurd hb.1 (by decide)
    have h2 : ¬ (b == 43) = true := fun e => by have := beq_iff_eq.1 e; subst this; exact absurd hb.1 (by decide)
    rw [if_neg h1, if_neg h2]
    unfold Lib.decNat
    rw [if_neg (by simp), decFrom_dig _ hd]; rfl
theorem vhead_at (s : ByteArray) (h : 0 < s.size) : s.data.toList.head? = some s[0] := by
  rw [List.head?_eq_getElem?]
  exact List.getElem?_eq_getElem (by rw [← Lib.size_eq]; exact h)
/-- How a text may be a number, or none. -/
theorem num_ways (s : ByteArray) : s.size = 0 ∧ (s.toList == []) = true ∧ numL s.data.toList = false ∨ (s.toList == []) = false ∧ (4 < s.size ∧ numL s.data.toList = false ∨ 1 ≤ s.size ∧ s.size ≤ 4 ∧ (s.data.toList.all digB = false ∧ numL s.data.toList = false ∨ s.data.toList.all digB = true ∧ (s.size = 1 ∧ numL s.data.toList = true ∨ 1 < s.size ∧ ∃ (h : 0 < s.size), (s[0] = 48 ∧ numL s.data.toList = false ∨ s[0] ≠ 48 ∧ numL s.data.toList = true)))) := by
  have e := Lib.size_eq s
  have hh := vhead_at s
  rw [Lib.toList_data]
  by_cases h1 : s.size = 0
  · refine .inl ⟨h1, ?_, ?_⟩
    · rw [beq_iff_eq]; exact List.length_eq_zero_iff.1 (by omega)
    · unfold numL; rw [decide_eq_false (by omega)]; rfl
  · refine .inr ⟨?_, ?_⟩
    · rw [beq_eq_false_iff_ne]; intro h; rw [h] at e; exact h1 (by simpa using e)
    · by_cases h2 : 4 < s.size
      · refine .inl ⟨h2, ?_⟩
        unfold numL; rw [decide_eq_false (by omega)]; rfl
      · refine .inr ⟨by omega, by omega, ?_⟩
        by_cases h3 : s.data.toList.all digB = true
        · refine .inr ⟨h3, ?_⟩
          unfold numL
          rw [h3, Bool.and_true]
          by_cases h4 : s.size = 1
          · exact .inl ⟨h4, decide_eq_true ⟨by omega, by omega, by omega⟩⟩
          · refine .inr ⟨by omega, by omega, ?_⟩
            rw [hh (by omega)]
            by_cases h5 : s[0] = 48
            · exact .inl ⟨h5, decide_eq_false fun k => k.2.2 ⟨by omega, by rw [h5]⟩⟩
            · exact .inr ⟨h5, decide_eq_true ⟨by omega, by omega, fun k => h5 (Option.some.inj k.2)⟩⟩
        · have h3 : s.data.toList.all digB = false := by simpa using h3
          refine .inl ⟨h3, ?_⟩
          unfold numL; rw [h3, Bool.and_false]
set_option maxHeartbeats 2000000 in
theorem number_any (s : ByteArray) (w : World) (hs : s.size ≤ maxLen) : Calls Tryz.prog 68 #[.string s] w fun e w' => e = .returned (.tuple #[.int .i64 (if numL s.data.toList then (valN s.data.toList : Int) else 0), .bool (numL s.data.toList)]) ∧ Below w.heap.size w w' := by
  unfold maxLen at hs
  have hC := has_noDig s w
  rcases num_ways s with ⟨h1, h2, h3⟩ | ⟨h1, ⟨h2, h3⟩ | ⟨h2, h3, ⟨h4, h5⟩ | ⟨h4, ⟨h5, h6⟩ | ⟨h5, h0, ⟨h6, h7⟩ | ⟨h6, h7⟩⟩⟩⟩⟩
  · rw [h3]
    go_enter Tryz.func68, Tryz.ntmps68
    go_wp2_with fail
    go_ret2
    exact ⟨rfl, Below.refl _ _⟩
  · rw [h3]
    go_enter Tryz.func68, Tryz.ntmps68
    go_wp2_with fail
    go_ret2
    exact ⟨rfl, Below.refl _ _⟩
  · rw [h5]
    rw [h4] at hC
    go_enter Tryz.func68, Tryz.ntmps68
    go_wp2_with fail
    refine hC.mono ?_
    rintro e w' ⟨rfl, hb⟩
    go_wp2_with fail
    go_ret2
    exact ⟨rfl, hb⟩
  · have hA := fun w1 => Tryz.strconv_Atoi s (valN s.data.toList) (by omega) (atoi_num h6) w1
    rw [h6]
    rw [h4] at hC
    go_enter Tryz.func68, Tryz.ntmps68
    go_wp2_with fail
    refine hC.mono ?_
    rintro e w' ⟨rfl, hb⟩
    go_wp2_with fail
    refine (hA w').mono ?_
    rintro e w2 ⟨rfl, t, rfl⟩
    have hb2 := hb.trans ((Lib.bytesWorld_below w' 5 t).mono hb.size)
    go_wp2_with fail
    go_ret2
    exact ⟨rfl, hb2⟩
  · rw [h7]
    rw [h4] at hC
    go_enter Tryz.func68, Tryz.ntmps68
    go_wp2_with fail
    refine hC.mono ?_
    rintro e w' ⟨rfl, hb⟩
    go_wp2_with fail
    go_ret2
    exact ⟨rfl, hb⟩
  · have hA := fun w1 => Tryz.strconv_Atoi s (valN s.data.toList) (by omega) (atoi_num h7) w1
    rw [h7]
    rw [h4] at hC
    have hx : ((s[0].toNat : Int) == 48) = false := beq_eq_false_iff_ne.2 fun e => h6 (UInt8.toNat_inj.1 (show s[0].toNat = 48 by omega))
    have hy : decide (4 < (s.size : Int)) = false := decide_eq_false (by omega)
    go_enter Tryz.func68, Tryz.ntmps68
    go_wp2_with fail
    refine hC.mono ?_
    rintro e w' ⟨rfl, hb⟩
    go_wp2_with fail
    refine (hA w').mono ?_
    rintro e w2 ⟨rfl, t, rfl⟩
    have hb2 := hb.trans ((Lib.bytesWorld_below w' 5 t).mono hb.size)
    go_wp2_with fail
    go_ret2
    exact ⟨rfl, hb2⟩
end Go.Proofs.YtihnjhigemhknaaGreatDoor
