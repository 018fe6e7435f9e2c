/- Paths of which names are known; the path of the directory ahead of a path's last name. -/
import Derived.Test.YtamkfadammlhbaaGreatDoorPJoin
namespace Go.Proofs.YtamkfadammlhbaaGreatDoor
open Go.RowKit
set_option linter.unusedVariables false
set_option linter.unusedSimpArgs false

theorem parts_free (l : List UInt8) (h : (47 : UInt8) ∉ l) : partsL l = [l] := by
  induction l with
  | nil => rfl
  | cons c l ih =>
    have h1 : c ≠ 47 := fun e => h (by rw [e]; exact List.mem_cons_self ..)
    unfold partsL
    rw [if_neg h1, ih fun e => h (List.mem_cons_of_mem _ e)]; rfl
theorem parts_app (x : List UInt8) (r : List UInt8) (h : (47 : UInt8) ∉ x) : partsL (x ++ 47 :: r) = x :: partsL r := by
  induction x with
  | nil => show partsL (47 :: r) = _; rw [partsL, if_pos rfl]
  | cons c l ih =>
    have h1 : c ≠ 47 := fun e => h (by rw [e]; exact List.mem_cons_self ..)
    show partsL (c :: (l ++ 47 :: r)) = _
    rw [partsL, if_neg h1, ih fun e => h (List.mem_cons_of_mem _ e)]; rfl
theorem parts_join (ls : List (List UInt8)) (hne : ls ≠ []) (h : ∀ l ∈ ls, (47 : UInt8) ∉ l) : partsL (Lib.join ls [47]) = ls := by
  induction ls with
  | nil => exact absurd rfl hne
  | cons x r ih =>
    rw [Lib.join_cons]
    have hx := h x (List.mem_cons_self ..)
    cases r with
    | nil => simp only [Lib.joinTail, List.map_nil, List.flatten_nil, List.append_nil]; exact parts_free x hx
    | cons y r =>
      have e : Lib.joinTail [47] (y :: r) = 47 :: Lib.join (y :: r) [47] := by
        rw [Lib.join_cons]; simp [Lib.joinTail]
      rw [e, parts_app x _ hx, ih (by simp) fun l hl => h l (List.mem_cons_of_mem _ hl)]
/-- How long the path of names is. -/
def sumL (ls : List (List UInt8)) : Nat := (ls.map fun l => 1 + l.length).sum
theorem sumL_take (ls : List (List UInt8)) (k : Nat) (h : k < ls.length) : sumL (ls.take (k + 1)) = sumL (ls.take k) + (1 + ls[k].length) := by
  unfold sumL
  rw [List.take_succ_eq_append_getElem h, List.map_append, List.sum_append, List.map_cons, List.map_nil, List.sum_cons, List.sum_nil]; rfl
theorem sumL_join (ls : List (List UInt8)) (hne : ls ≠ []) : (joinL ls).length = sumL ls := by
  induction ls with
  | nil => exact absurd rfl hne
  | cons x r ih =>
    cases r with
    | nil => simp [joinL, Lib.join_cons, Lib.joinTail, sumL]; omega
    | cons y r =>
      have h1 := ih (by simp)
      have e : joinL (x :: y :: r) = 47 :: (x ++ joinL (y :: r)) := by
        unfold joinL
        rw [Lib.join_cons, Lib.join_cons]; simp [Lib.joinTail]
      rw [e, List.length_cons, List.length_append, h1]
      show _ = ((1 + x.length) :: ((y :: r).map fun l => 1 + l.length)).sum
      rw [List.sum_cons]
      show _ = _ + sumL (y :: r)
      omega
theorem sumL_le (ls : List (List UInt8)) (m : Nat) (h : ∀ l ∈ ls, l.length ≤ m) : sumL ls ≤ ls.length * (m + 1) := by
  unfold sumL
  induction ls with
  | nil => simp
  | cons x r ih =>
    have h1 := h x (List.mem_cons_self ..)
    have h2 := ih fun l hl => h l (List.mem_cons_of_mem _ hl)
    rw [List.map_cons, List.sum_cons, List.length_cons, Nat.add_mul]; omega
/-- May so many names stand in a path? -/
def rightL (ls : List (List UInt8)) : Bool := decide (0 < ls.length ∧ ls.length ≤ 5) && ls.all nameL
theorem okP_join (ls : List (List UInt8)) (hne : ls ≠ []) (h47 : joinL ls ≠ [47]) (h : ∀ l ∈ ls, (47 : UInt8) ∉ l) : okP (joinL ls) = (rightL ls && decide (sumL ls ≤ 40)) ∧ (okP (joinL ls) = true → namesL (joinL ls) = ls) := by
  have e : (joinL ls).tail = Lib.join ls [47] := rfl
  have hp : partsL (joinL ls).tail = ls := by rw [e]; exact parts_join ls hne h
  have hpos : 0 < ls.length := List.length_pos_iff.2 hne
  refine ⟨?_, fun ho => ?_⟩
  · unfold okP rightL
    rw [decide_eq_false h47, hp, sumL_join ls hne]
    have hh : (joinL ls).head? = some 47 := rfl
    rw [decide_eq_true hh]
    by_cases h5 : ls.length ≤ 5
    · rw [decide_eq_true h5, decide_eq_true (show 0 < ls.length ∧ ls.length ≤ 5 from ⟨hpos, h5⟩)]
      simp [Bool.and_comm]
    · rw [decide_eq_false h5, decide_eq_false (show ¬ (0 < ls.length ∧ ls.length ≤ 5) from fun h => h5 h.2)]
      simp
  · unfold namesL; rw [if_neg h47, ho, hp]; rfl
theorem join_root (ls : List (List UInt8)) (h : joinL ls = [47]) : ls.length ≤ 1 := by
  unfold joinL at h
  have h1 : Lib.join ls [47] = [] := by injection h
  cases ls with
  | nil => simp
  | cons x r =>
    cases r with
    | nil => simp
    | cons y r =>
      rw [Lib.join_cons] at h1
      simp [Lib.joinTail] at h1
theorem sumL_glue (p : List UInt8) {r : List (List UInt8)} (h : r ≠ []) : sumL (glue p r) = p.length + sumL r := by
  cases r with
  | nil => exact absurd rfl h
  | cons q r => simp [glue, sumL]; omega
theorem sumL_parts (l : List UInt8) : sumL (partsL l) = l.length + 1 := by
  induction l with
  | nil => rfl
  | cons c l ih =>
    unfold partsL
    split
    · simp only [sumL, List.map_cons, List.sum_cons] at ih ⊢
      simp only [List.length_nil, List.length_cons]; omega
    · rw [sumL_glue _ (partsL_ne l), ih]; simp; omega
theorem sumL_append (a b : List (List UInt8)) : sumL (a ++ b) = sumL a + sumL b := by unfold sumL; rw [List.map_append, List.sum_append]
/-- The path ahead of a path's last name is a path, of the other names. -/
theorem parent_path {l : List UInt8} {ini : List (List UInt8)} {z : List UInt8} (h : namesL l = ini ++ [z]) : okP (joinL ini) = true ∧ namesL (joinL ini) = ini := by
  obtain ⟨h5, h6⟩ := names_bounds l
  rw [h] at h5 h6
  have hok : l ≠ [47] ∧ okP l = true ∧ partsL l.tail = ini ++ [z] := by
    unfold namesL at h
    split at h
    · exact absurd h (by simp)
    · rename_i h1
      split at h
      · rename_i h2; exact ⟨h1, h2, h⟩
      · exact absurd h (by simp)
  obtain ⟨h1, h2, h3⟩ := hok
  have hlen : l.length ≤ 40 ∧ l.head? = some 47 := by
    unfold okP at h2
    rw [decide_eq_false h1] at h2
    simp only [Bool.false_or, Bool.and_eq_true, decide_eq_true_eq] at h2
    exact ⟨h2.1.1.1, h2.1.1.2⟩
  have hs := sumL_parts l.tail
  rw [h3, sumL_append] at hs
  have hl : l.tail.length + 1 = l.length := by
    cases l with
    | nil => simp at hlen
    | cons c r => simp
  cases ini with
  | nil => exact ⟨by decide, by decide⟩
  | cons x r =>
    have hne : (x :: r) ≠ [] := by simp
    have hn : ∀ n ∈ x :: r, nameL n = true := fun n hn => h6 n (List.mem_append_left _ hn)
    have h47 : joinL (x :: r) ≠ [47] := fun e => by
      have h7 := congrArg List.length e
      rw [sumL_join _ hne] at h7
      have h8 := (name_len (hn x (List.mem_cons_self ..))).1
      simp only [sumL, List.map_cons, List.sum_cons, List.length_cons, List.length_nil] at h7
      omega
    obtain ⟨h9, h10⟩ := okP_join (x :: r) hne h47 (fun n hm => nameL_no_slash (hn n hm))
    have h11 : okP (joinL (x :: r)) = true := by
      rw [h9]
      unfold rightL
      rw [List.length_append] at h5
      simp only [List.length_cons, List.length_nil, Nat.zero_add] at h5
      simp only [Bool.and_eq_true, decide_eq_true_eq, List.all_eq_true]
      refine ⟨⟨⟨by simp, by simp only [List.length_cons]; omega⟩, hn⟩, by omega⟩
    exact ⟨h11, h10 h11⟩
end Go.Proofs.YtamkfadammlhbaaGreatDoor
