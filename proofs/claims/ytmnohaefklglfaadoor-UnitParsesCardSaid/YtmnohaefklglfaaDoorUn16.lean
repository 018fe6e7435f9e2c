/- What lines without words, and where a retry is said, make of a unit. Of no program. -/
import Derived.Test.YtmnohaefklglfaaDoorUn15
namespace Go.Proofs.YtmnohaefklglfaaDoor
open Go.RowKit
set_option linter.unusedVariables false
set_option linter.unusedSimpArgs false

theorem run_cons (u : UD) (n : Nat) (l : List UInt8) (r : List (List UInt8)) : runU u n (l :: r) = if (stepU u l).2 = 0 then runU (stepU u l).1 (n + 1) r else ((stepU u l).2, n + 1, u) := rfl
theorem end_no {x : Int × Nat × UD} (h : x.1 ≠ 0) : endU x = (x.1, x.2.1, UD0) := by unfold endU; rw [if_pos h]
theorem end_ok {x : Int × Nat × UD} (h : x.1 = 0) : endU x = if x.2.2.name = [] ∨ listU x.2.2 0 = [] then (8, 0, UD0) else (0, 0, x.2.2) := by unfold endU; rw [if_neg (fun e => e h)]
theorem run_shift (ls : List (List UInt8)) : ∀ (u : UD) (n m : Nat), (runU u n ls).1 = (runU u m ls).1 ∧ (runU u n ls).2.2 = (runU u m ls).2.2 := by
  induction ls with
  | nil => intro u n m; exact ⟨rfl, rfl⟩
  | cons l r ih =>
    intro u n m
    rw [run_cons, run_cons]
    split
    · exact ih _ _ _
    · exact ⟨rfl, rfl⟩
theorem run_app (A B : List (List UInt8)) : ∀ (u : UD) (n : Nat), runU u n (A ++ B) = if (runU u n A).1 = 0 then runU (runU u n A).2.2 (runU u n A).2.1 B else runU u n A := by
  induction A with
  | nil => intro u n; rfl
  | cons l r ih =>
    intro u n
    rw [List.cons_append, run_cons, run_cons]
    by_cases h : (stepU u l).2 = 0
    · rw [if_pos h, if_pos h]; exact ih _ _
    · rw [if_neg h, if_neg h, if_neg h]
/-- The same is told of two texts, but for the line. -/
def alikeU (s t : List UInt8) : Prop := (parseU s).1 = (parseU t).1 ∧ (parseU s).2.2 = (parseU t).2.2
theorem end_alike {x y : Int × Nat × UD} (h1 : x.1 = y.1) (h2 : x.1 = 0 → x.2.2 = y.2.2) : (endU x).1 = (endU y).1 ∧ (endU x).2.2 = (endU y).2.2 := by
  by_cases h : x.1 = 0
  · rw [end_ok h, end_ok (h1 ▸ h : y.1 = 0), h2 h]
    split <;> exact ⟨rfl, rfl⟩
  · rw [end_no h, end_no (fun e => h (h1.trans e) : y.1 ≠ 0)]
    exact ⟨h1, rfl⟩
def remarkL : List UInt8 := [35, 32, 114, 101, 109, 97, 114, 107]
theorem lines_remark (a b : List UInt8) : alikeU (a ++ 10 :: b) (a ++ 10 :: 10 :: (remarkL ++ 10 :: b)) := by
  have e1 : linesL (a ++ 10 :: 10 :: (remarkL ++ 10 :: b)) = linesL a ++ ([] :: remarkL :: linesL b) := by
    rw [lines_sep, show linesL (10 :: (remarkL ++ 10 :: b)) = [] :: linesL (remarkL ++ 10 :: b) from rfl, lines_line (by decide) b]
  have skip : ∀ (u : UD) (n : Nat) (B : List (List UInt8)), runU u n ([] :: remarkL :: B) = runU u (n + 1 + 1) B := fun u n B => rfl
  unfold alikeU parseU
  rw [e1, lines_sep, run_app, run_app]
  by_cases h : (runU UD0 0 (linesL a)).1 = 0
  · rw [if_pos h, if_pos h, skip]
    obtain ⟨q1, q2⟩ := run_shift (linesL b) (runU UD0 0 (linesL a)).2.2 (runU UD0 0 (linesL a)).2.1 ((runU UD0 0 (linesL a)).2.1 + 1 + 1)
    exact end_alike q1 fun _ => q2
  · rw [if_neg h, if_neg h]
    exact ⟨rfl, rfl⟩
theorem run_said (ls : List (List UInt8)) : ∀ (u : UD) (n : Nat), u.retry.isSome = true → (runU u n ls).2.2.retry.isSome = true := by
  induction ls with
  | nil => intro u n h; exact h
  | cons l r ih =>
    intro u n h
    rw [run_cons]
    split
    · refine ih _ _ ?_
      unfold stepU
      split
      · exact h
      · unfold lineU
        split
        · unfold nameU
          split
          · exact h
          · split <;> exact h
        · split
          · unfold retryU
            split
            · exact h
            · rw [if_pos h]; exact h
          · unfold pickU
            split
            · exact h
            · unfold linkU
              split
              · exact h
              · split
                · exact h
                · split <;> exact h
    · exact h
theorem step_said (u : UD) (hu : u.retry = none) (d : Nat) (l : List UInt8) :
    ((stepU { u with retry := some d } l).2 ≠ 0 ∧ ((stepU u l).2 ≠ 0 ∨ (stepU u l).1.retry.isSome = true)) ∨ (stepU { u with retry := some d } l = ({ (stepU u l).1 with retry := some d }, 0) ∧ (stepU u l).2 = 0 ∧ (stepU u l).1.retry = none) := by
  unfold stepU
  split
  · exact .inr ⟨rfl, rfl, hu⟩
  · unfold lineU
    split
    · unfold nameU
      split
      · exact .inl ⟨by simp, .inl (by simp)⟩
      · split
        · exact .inl ⟨by simp, .inl (by simp)⟩
        · exact .inr ⟨rfl, rfl, hu⟩
    · split
      · unfold retryU
        split
        · exact .inl ⟨by simp, .inl (by simp)⟩
        · rename_i d' hd
          exact .inl ⟨by simp, .inr (by simp [hu])⟩
      · unfold pickU
        split
        · exact .inl ⟨by simp, .inl (by simp)⟩
        · rename_i k hk
          unfold linkU
          have e : listU { u with retry := some d } k = listU u k := rfl
          rw [e]
          split
          · exact .inl ⟨by simp, .inl (by simp)⟩
          · split
            · exact .inl ⟨by simp, .inl (by simp)⟩
            · split
              · exact .inl ⟨by simp, .inl (by simp)⟩
              · exact .inr ⟨rfl, rfl, hu⟩
theorem run_ahead (ls : List (List UInt8)) : ∀ (u : UD) (n m d : Nat), u.retry = none →
    ((runU { u with retry := some d } n ls).1 ≠ 0 ∧ ((runU u m ls).1 ≠ 0 ∨ (runU u m ls).2.2.retry.isSome = true)) ∨
    ((runU { u with retry := some d } n ls).1 = 0 ∧ (runU { u with retry := some d } n ls).2.2 = { (runU u m ls).2.2 with retry := some d } ∧ (runU u m ls).1 = 0 ∧ (runU u m ls).2.2.retry = none) := by
  induction ls with
  | nil => intro u n m d hu; exact .inr ⟨rfl, rfl, rfl, hu⟩
  | cons l r ih =>
    intro u n m d hu
    rcases step_said u hu d l with ⟨h1, h2⟩ | ⟨h1, h2, h3⟩
    · left
      rw [run_cons, run_cons, if_neg h1]
      refine ⟨h1, ?_⟩
      by_cases h : (stepU u l).2 = 0
      · rw [if_pos h]
        rcases h2 with h2 | h2
        · exact absurd h h2
        · exact .inr (run_said r _ _ h2)
      · rw [if_neg h]
        exact .inl h
    · rw [run_cons, run_cons, h1, if_pos rfl, if_pos h2]
      exact ih _ _ _ d h3
def retry1 : List UInt8 := [114, 101, 116, 114, 121, 32, 49]
theorem lines_retry (a : List UInt8) : ((parseU (retry1 ++ 10 :: a)).1 = 0 ↔ (parseU (a ++ 10 :: retry1)).1 = 0) ∧ (parseU (retry1 ++ 10 :: a)).2.2 = (parseU (a ++ 10 :: retry1)).2.2 := by
  have e1 : runU UD0 0 (linesL (retry1 ++ 10 :: a)) = runU { UD0 with retry := some 1 } 1 (linesL a) := by
    rw [lines_line (by decide) a]; rfl
  have e2 : linesL (a ++ 10 :: retry1) = linesL a ++ [retry1] := by rw [lines_sep]; rfl
  have e3 : ∀ (u : UD) (n : Nat), runU u n [retry1] = if u.retry.isSome then (9, n + 1, u) else (0, n + 1, { u with retry := some 1 }) := fun u n => by
    have hs : stepU u retry1 = if u.retry.isSome then (u, 9) else ({ u with retry := some 1 }, 0) := rfl
    rw [run_cons, hs]
    cases u.retry.isSome <;> rfl
  unfold parseU
  rw [e1, e2, run_app]
  have no : ∀ x : Int × Nat × UD, x.1 ≠ 0 → (endU x).1 ≠ 0 ∧ (endU x).2.2 = UD0 := fun x hx => by
    rw [end_no hx]
    exact ⟨hx, rfl⟩
  rcases run_ahead (linesL a) UD0 1 0 1 rfl with ⟨h1, h2⟩ | ⟨h1, h2, h3, h4⟩
  · obtain ⟨q1, q2⟩ := no _ h1
    by_cases h : (runU UD0 0 (linesL a)).1 = 0
    · rw [if_pos h, e3]
      rcases h2 with h2 | h2
      · exact absurd h h2
      · rw [if_pos h2]
        obtain ⟨q3, q4⟩ := no (9, (runU UD0 0 (linesL a)).2.1 + 1, (runU UD0 0 (linesL a)).2.2) (by simp)
        exact ⟨⟨fun e => absurd e q1, fun e => absurd e q3⟩, q2.trans q4.symm⟩
    · rw [if_neg h]
      obtain ⟨q3, q4⟩ := no _ h
      exact ⟨⟨fun e => absurd e q1, fun e => absurd e q3⟩, q2.trans q4.symm⟩
  · rw [if_pos h3, e3, if_neg (by rw [h4]; decide)]
    obtain ⟨q1, q2⟩ := end_alike (x := runU { UD0 with retry := some 1 } 1 (linesL a)) (y := (0, (runU UD0 0 (linesL a)).2.1 + 1, { (runU UD0 0 (linesL a)).2.2 with retry := some 1 })) h1 fun _ => h2
    exact ⟨by rw [q1], q2⟩
end Go.Proofs.YtmnohaefklglfaaDoor
