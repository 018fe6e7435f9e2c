/- The reference of package path: 'Split', 'Join'; the law's 'same'; path's 'Within'. -/
import Derived.Test.YtjhaihckbmkiaaaDoorPJoin
namespace Go.Proofs.YtjhaihckbmkiaaaDoor
open Go.RowKit
set_option linter.unusedVariables false
set_option linter.unusedSimpArgs false

/-- Two lists of texts, held one against the other. -/
def sameL (a b : List (List UInt8)) : Bool := decide (a = b)
theorem sameL_len {a b : List (List UInt8)} (h : a.length ≠ b.length) : sameL a b = false := decide_eq_false fun e => h (by rw [e])
theorem sameL_at {a b : List (List UInt8)} (k : Nat) (ha : k < a.length) (hb : k < b.length) (h : a[k] ≠ b[k]) : sameL a b = false := decide_eq_false fun e => h (by subst e; rfl)
theorem sameL_all {a b : List (List UInt8)} (hl : a.length = b.length) (h : ∀ k (ha : k < a.length) (hb : k < b.length), a[k] = b[k]) : sameL a b = true := decide_eq_true (List.ext_getElem hl h)
theorem toB_ne {a b : List UInt8} (h : a ≠ b) : toB a ≠ toB b := fun e => h (toB_inj e)
theorem Sts.below {w w' : World} {v : Value} {ls : List (List UInt8)} (h : Sts w v ls) (hb : Below w.heap.size w w') : Sts w' v ls := h.later hb
theorem below_drewN (w : World) (q : Nat) : Below w.heap.size w (w.drewN q) := ⟨rfl, rfl, rfl, Nat.le_refl _, fun _ _ => rfl⟩
def withinL (l m : List UInt8) : Bool := okP l && okP m && decide ((namesL m).length < (namesL l).length) && sameL ((namesL l).take (namesL m).length) (namesL m)
/-- The reference's Join. -/
def refJoinL (ls : List (List UInt8)) : List UInt8 := (ls.map fun l => (47 : UInt8) :: l).flatten
theorem refJoin_eq (ls : List (List UInt8)) (h : ls ≠ []) : refJoinL ls = joinL ls := by
  cases ls with
  | nil => exact absurd rfl h
  | cons x r =>
    unfold refJoinL joinL
    rw [Lib.join_cons]
    simp [Lib.joinTail]
theorem refJoin_succ (ls : List (List UInt8)) (k : Nat) (h : k < ls.length) : refJoinL (ls.take (k + 1)) = refJoinL (ls.take k) ++ [47] ++ ls[k] := by
  unfold refJoinL
  rw [List.take_succ_eq_append_getElem h, List.map_append, List.flatten_append, List.map_cons, List.map_nil, List.flatten_cons, List.flatten_nil, List.append_nil, List.append_assoc]; rfl
theorem refJoin_len (ls : List (List UInt8)) (m : Nat) (h : ∀ l ∈ ls, l.length ≤ m) : (refJoinL ls).length ≤ ls.length * (m + 1) := by
  induction ls with
  | nil => simp [refJoinL]
  | cons y r ih =>
    have h1 := ih (fun l hl => h l (List.mem_cons_of_mem _ hl))
    have hy := h y (List.mem_cons_self ..)
    simp only [refJoinL, List.map_cons, List.flatten_cons, List.length_append, List.length_cons] at h1 ⊢
    rw [Nat.add_mul]; omega
theorem refJoin_pos (ls : List (List UInt8)) (h : ls ≠ []) : refJoinL ls ≠ [] := by
  cases ls with
  | nil => exact absurd rfl h
  | cons x r => simp [refJoinL]
/-- How far the reference's Split has come: 'done' are the pieces so far; a piece runs from 'f' to k. -/
def Cut (l : List UInt8) (done : List (List UInt8)) (f k : Nat) : Prop :=
  (1 ≤ f ∧ f ≤ k ∧ k ≤ l.length ∧ partsL (l.drop 1) = done ++ glue ((l.drop f).take (k - f)) (partsL (l.drop k))) ∨ (k = l.length + 1 ∧ partsL (l.drop 1) = done)
theorem Cut.start (l : List UInt8) (h : 1 ≤ l.length) : Cut l [] 1 1 := by
  refine .inl ⟨by omega, by omega, h, ?_⟩
  rw [Nat.sub_self, List.take_zero, glue_nil (partsL_ne _)]; rfl
theorem Cut.slash {l : List UInt8} {done : List (List UInt8)} {f k : Nat} (h : Cut l done f k) (hk : k < l.length) (hs : l[k] = 47) : Cut l (done ++ [(l.drop f).take (k - f)]) (k + 1) (k + 1) := by
  rcases h with ⟨h1, h2, h3, h4⟩ | ⟨h1, _⟩
  · refine .inl ⟨by omega, by omega, hk, ?_⟩
    rw [h4, Nat.sub_self, List.take_zero, glue_nil (partsL_ne _), List.drop_eq_getElem_cons hk, hs, partsL, if_pos rfl]
    simp [glue]
  · omega
theorem Cut.on {l : List UInt8} {done : List (List UInt8)} {f k : Nat} (h : Cut l done f k) (hk : k < l.length) (hs : l[k] ≠ 47) : Cut l done f (k + 1) := by
  rcases h with ⟨h1, h2, h3, h4⟩ | ⟨h1, _⟩
  · refine .inl ⟨h1, by omega, hk, ?_⟩
    have e : (l.drop f).take (k + 1 - f) = (l.drop f).take (k - f) ++ [l[k]] := by
      rw [show k + 1 - f = (k - f) + 1 by omega, List.take_succ_eq_append_getElem (by rw [List.length_drop]; omega), List.getElem_drop]
      congr 2; congr 1; omega
    rw [h4, e, List.drop_eq_getElem_cons hk, partsL, if_neg hs, glue_glue]
  · omega
theorem Cut.stop {l : List UInt8} {done : List (List UInt8)} {f k : Nat} (h : Cut l done f k) (hk : k = l.length) : Cut l (done ++ [(l.drop f).take (k - f)]) (k + 1) (k + 1) := by
  rcases h with ⟨h1, h2, h3, h4⟩ | ⟨h1, _⟩
  · refine .inr ⟨by omega, ?_⟩
    rw [h4, hk, List.drop_length, partsL]
    simp [glue]
  · omega
theorem Cut.few {l : List UInt8} {done : List (List UInt8)} {f k : Nat} (h : Cut l done f k) (hl : l.length ≤ 40) : done.length ≤ 41 := by
  have h0 := (partsL_length (l.drop 1)).2
  have h5 : (l.drop 1).length ≤ 40 := by rw [List.length_drop]; omega
  rcases h with ⟨_, _, _, h4⟩ | ⟨_, h4⟩
  · rw [h4, List.length_append] at h0; omega
  · rw [h4] at h0; omega
theorem Cut.ended {l : List UInt8} {done : List (List UInt8)} {f k : Nat} (h : Cut l done f k) (hk : ¬ k ≤ l.length) : partsL (l.drop 1) = done := by
  rcases h with ⟨_, _, h3, _⟩ | ⟨_, h4⟩
  · exact absurd h3 hk
  · exact h4
end Go.Proofs.YtjhaihckbmkiaaaDoor
