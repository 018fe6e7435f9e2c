/- 'Split' of package path: a text's names, in a row of the call's own. -/
import Derived.Test.YtnjabanjgckeoaaPName2
import Derived.Test.YtnjabanjgckeoaaShelf
namespace Go.Proofs.Ytnjabanjgckeoaa
open Go.RowKit
set_option linter.unusedVariables false
set_option linter.unusedSimpArgs false

/-- Texts as a row's cells; a row of texts. -/
abbrev strs (ls : List (List UInt8)) : List Value := ls.map fun l => Value.string (toB l)
abbrev rowSs (v : Value) (ls : List (List UInt8)) : Rw := ⟨9, 1, v, ls.length, strs ls⟩
theorem strs_length (ls : List (List UInt8)) : (strs ls).length = ls.length := by simp [strs]
theorem strs_at (ls : List (List UInt8)) (j : Nat) (h : j < ls.length) : (strs ls)[j]? = some (.string (toB ls[j])) := by simp [strs, h]
theorem Own.str {W0 : Base} {w : World} {g c : Nat} {ls : List (List UInt8)} {L : List Rw} (h : Own W0 w (rowSs (.slice (some ⟨g, 0, none⟩) ls.length c) ls :: L)) (k : Nat) (hk : k < ls.length) : w.cell? ⟨g, k, none⟩ = some (.string (toB ls[k])) := by
  rw [h.cell k (by omega)]; exact strs_at ls k hk
def SplitPost (w : World) (l : List UInt8) (e : Ending) (w' : World) : Prop := ∃ v, e = .returned (.tuple #[v, .bool (okP l)]) ∧ Own w w' [rowSs v (namesL l)]
theorem splitPost_no {w w' : World} {l : List UInt8} (h : okP l = false) (hb : Below w.heap.size w w') : SplitPost w l (.returned (.tuple #[.slice none 0 0, .bool false])) w' := by
  refine ⟨_, by rw [h], ?_⟩
  have h1 : namesL l = [] := by
    unfold namesL; rw [h]; split <;> rfl
  rw [h1]
  exact (Own.of_below hb).nil _ _
theorem okP_no_pre {l : List UInt8} (h1 : l ≠ [47]) (h : Lib.hasPrefix l [47] = false ∨ 40 < l.length) : okP l = false := by
  unfold okP
  rw [decide_eq_false h1]
  rcases h with h | h
  · have h2 : ¬ l.head? = some 47 := by
      intro e
      cases l with
      | nil => cases e
      | cons c l => simp at e; subst e; simp [Lib.hasPrefix, List.isPrefixOf] at h
    rw [decide_eq_false h2]; simp
  · rw [decide_eq_false (show ¬ l.length ≤ 40 by omega)]; simp
theorem okP_pre {l : List UInt8} (h1 : l ≠ [47]) (h2 : Lib.hasPrefix l [47] = true) (h3 : l.length ≤ 40) : okP l = (decide ((partsL l.tail).length ≤ 5) && (partsL l.tail).all nameL) ∧ Lib.trimPrefix l [47] = l.tail := by
  have h4 : l.head? = some 47 := by
    cases l with
    | nil => simp [Lib.hasPrefix, List.isPrefixOf] at h2
    | cons c l => simp [Lib.hasPrefix, List.isPrefixOf] at h2; simp [h2]
  refine ⟨?_, ?_⟩
  · unfold okP; rw [decide_eq_false h1, decide_eq_true h3, decide_eq_true h4]; simp
  · unfold Lib.trimPrefix; rw [h2]; simp
theorem all_take_succ {α : Type} (f : α → Bool) (ls : List α) (k : Nat) (h : k < ls.length) : (ls.take (k + 1)).all f = ((ls.take k).all f && f ls[k]) := by
  rw [List.take_succ_eq_append_getElem h, List.all_append, List.all_cons, List.all_nil, Bool.and_true]
theorem all_at_no {α : Type} (f : α → Bool) (ls : List α) (k : Nat) (h : k < ls.length) (hf : f ls[k] = false) : ls.all f = false := by
  rw [List.all_eq_false]
  exact ⟨ls[k], List.getElem_mem _, by rw [hf]; decide⟩
end Go.Proofs.Ytnjabanjgckeoaa
