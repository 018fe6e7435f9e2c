/- The document's example of jobs: its units; what a plan is in memory. -/
import Derived.Test.YtnjabanjgckeoaaJ4
import Derived.Test.YtnjabanjgckeoaaG17
namespace Go.Proofs.Ytnjabanjgckeoaa
open Go.RowKit
open Go.ChangeMaps (setBlock)
set_option linter.unusedVariables false
set_option linter.unusedSimpArgs false
set_option maxRecDepth 100000

/-- A plan in memory. -/
structure PlanAt (w : World) (b : Nat) (l1 l2 : List Nm) : Prop where
  ex : ∃ v1 v2, w.cell? ⟨b, 0, none⟩ = some v1 ∧ w.cell? ⟨b, 1, none⟩ = some v2 ∧ Sts w v1 l1 ∧ Sts w v2 l2
theorem PlanAt.later {w w' : World} {b : Nat} {l1 l2 : List Nm} (h : PlanAt w b l1 l2) (hb : Below w.heap.size w w') : PlanAt w' b l1 l2 := by
  obtain ⟨v1, v2, h1, h2, h3, h4⟩ := h.ex
  have hl := World.block_lt_of_cell? w ⟨b, 0, none⟩ h1
  exact ⟨v1, v2, (hb.cell (p := ⟨b, 0, none⟩) hl).trans h1, (hb.cell (p := ⟨b, 1, none⟩) hl).trans h2, h3.later hb, h4.later hb⟩
theorem plan_in {W0 : Base} {w : World} {b : Nat} {v1 v2 : Value} {l1 l2 : List Nm} (h : Own W0 w [rowPl b [v1, v2], rowSs v1 l1, rowSs v2 l2]) : PlanAt w b l1 l2 :=
  ⟨v1, v2, h.cell 0 (by decide), h.cell 1 (by decide), h.tail.sts, h.tail.tail.sts⟩
theorem PlanAt.shape {w : World} {b : Nat} {l1 l2 : List Nm} (h : PlanAt w b l1 l2) : ∃ a1 c1 a2 c2, w.cell? ⟨b, 0, none⟩ = some (.slice a1 l1.length c1) ∧ w.cell? ⟨b, 1, none⟩ = some (.slice a2 l2.length c2) ∧ Sts w (.slice a1 l1.length c1) l1 ∧ Sts w (.slice a2 l2.length c2) l2 := by
  obtain ⟨v1, v2, h1, h2, h3, h4⟩ := h.ex
  obtain ⟨a1, c1, rfl, _⟩ := id h3
  obtain ⟨a2, c2, rfl, _⟩ := id h4
  exact ⟨a1, c1, a2, c2, h1, h2, h3, h4⟩
theorem plan_cells (v1 v2 : Value) (a1 a2 : Option Addr) (n1 n2 c1 c2 : Nat) (h1 : v1 = .slice a1 n1 c1) (h2 : v2 = .slice a2 n2 c2) : ∀ v ∈ [v1, v2], Value.oneCell' v = true := by
  intro v hv
  rcases List.mem_cons.1 hv with rfl | hv
  · rw [h1]; rfl
  · rcases List.mem_cons.1 hv with rfl | hv
    · rw [h2]; rfl
    · cases hv

def cC : GU := ⟨[99], [], [], [], [], [], [], 0⟩
def cA : GU := ⟨[97], [], [], [], [], [], [], 0⟩
def usC : List GU := [gA, gB, cC]
def usD : List GU := [gB, cA]
theorem errC : errU usC = 0 := by decide
theorem errD : errU usD = 0 := by decide
theorem ordC : ordU usC = [[98], [97], [99]] := by decide
theorem ordD : ordU usD = [[97], [98]] := by decide
theorem leanC {l : List Nm} (h : Just l (LeanR usC [[98]])) : l = [[97], [98]] := by
  refine order_ext h.order (by unfold InOrder; decide) h.once (by decide) fun n => (h.mem n).trans ⟨fun hn => ?_, fun hn => ?_⟩
  · induction hn with
    | base _ h => simp only [List.mem_cons, List.not_mem_nil, or_false] at h ⊢; exact .inr h
    | @step u x hu hx _ ih =>
      simp only [usC, List.mem_cons, List.not_mem_nil, or_false] at hu
      rcases hu with rfl | rfl | rfl
      · simp [gA]
      · rcases hx with hx | hx <;> cases hx
      · rcases hx with hx | hx <;> cases hx
  · have hb : LeanR usC [[98]] [98] := .base (by decide) (by decide)
    have ha : LeanR usC [[98]] [97] := .step (u := gA) (x := [98]) (by simp [usC]) (.inl (by decide)) hb
    simp only [List.mem_cons, List.not_mem_nil, or_false] at hn
    rcases hn with rfl | rfl
    · exact ha
    · exact hb
theorem goneD : goneN usD [[99], [97]] = [[99]] := by decide
theorem argC (w : World) : UArg ((w.alloc (.cells #[.string ⟨#[98]⟩] 9)).alloc (.cells #[.string ⟨#[97]⟩, .slice none 0 0, .slice none 0 0, .slice none 0 0, .slice (some ⟨w.heap.size, 0, none⟩) 1 1, .slice none 0 0, .slice none 0 0, .int .i64 0, .string ⟨#[98]⟩, .slice none 0 0, .slice none 0 0, .slice none 0 0, .slice none 0 0, .slice none 0 0, .slice none 0 0, .int .i64 0, .string ⟨#[99]⟩, .slice none 0 0, .slice none 0 0, .slice none 0 0, .slice none 0 0, .slice none 0 0, .slice none 0 0, .int .i64 0] 44)) (.slice (some ⟨w.heap.size + 1, 0, none⟩) 3 3) usC ∧ Below w.heap.size w ((w.alloc (.cells #[.string ⟨#[98]⟩] 9)).alloc (.cells #[.string ⟨#[97]⟩, .slice none 0 0, .slice none 0 0, .slice none 0 0, .slice (some ⟨w.heap.size, 0, none⟩) 1 1, .slice none 0 0, .slice none 0 0, .int .i64 0, .string ⟨#[98]⟩, .slice none 0 0, .slice none 0 0, .slice none 0 0, .slice none 0 0, .slice none 0 0, .slice none 0 0, .int .i64 0, .string ⟨#[99]⟩, .slice none 0 0, .slice none 0 0, .slice none 0 0, .slice none 0 0, .slice none 0 0, .slice none 0 0, .int .i64 0] 44)) := by
  have O1 := (Own.start w).made_at 9 1 #[.string ⟨#[98]⟩] 1 w.heap.size rfl rfl (by unfold maxLen; decide)
  have O4 := O1.made_at 44 8 #[.string ⟨#[97]⟩, .slice none 0 0, .slice none 0 0, .slice none 0 0, .slice (some ⟨w.heap.size, 0, none⟩) 1 1, .slice none 0 0, .slice none 0 0, .int .i64 0, .string ⟨#[98]⟩, .slice none 0 0, .slice none 0 0, .slice none 0 0, .slice none 0 0, .slice none 0 0, .slice none 0 0, .int .i64 0, .string ⟨#[99]⟩, .slice none 0 0, .slice none 0 0, .slice none 0 0, .slice none 0 0, .slice none 0 0, .slice none 0 0, .int .i64 0] 3 (w.heap.size + 1) (by simp) rfl (by unfold maxLen; decide)
  refine ⟨uarg_of (xs := [⟨[97], .slice none 0 0, .slice none 0 0, .slice none 0 0, .slice (some ⟨w.heap.size, 0, none⟩) 1 1, .slice none 0 0, .slice none 0 0, 0⟩, ⟨[98], .slice none 0 0, .slice none 0 0, .slice none 0 0, .slice none 0 0, .slice none 0 0, .slice none 0 0, 0⟩, ⟨[99], .slice none 0 0, .slice none 0 0, .slice none 0 0, .slice none 0 0, .slice none 0 0, .slice none 0 0, 0⟩]) O4 ?_ (fun x hx => by
    simp only [List.mem_cons, List.not_mem_nil, or_false] at hx
    rcases hx with rfl | rfl | rfl <;> (intro v hv; simp only [List.mem_cons, List.not_mem_nil, or_false] at hv; rcases hv with rfl | rfl | rfl | rfl | rfl | rfl <;> first | exact .inl rfl | exact .inr ⟨_, _, _, rfl⟩)), O4.below⟩
  have n0 := sts_nil ((w.alloc (.cells #[.string ⟨#[98]⟩] 9)).alloc (.cells #[.string ⟨#[97]⟩, .slice none 0 0, .slice none 0 0, .slice none 0 0, .slice (some ⟨w.heap.size, 0, none⟩) 1 1, .slice none 0 0, .slice none 0 0, .int .i64 0, .string ⟨#[98]⟩, .slice none 0 0, .slice none 0 0, .slice none 0 0, .slice none 0 0, .slice none 0 0, .slice none 0 0, .int .i64 0, .string ⟨#[99]⟩, .slice none 0 0, .slice none 0 0, .slice none 0 0, .slice none 0 0, .slice none 0 0, .slice none 0 0, .int .i64 0] 44))
  have s1 : Sts ((w.alloc (.cells #[.string ⟨#[98]⟩] 9)).alloc (.cells #[.string ⟨#[97]⟩, .slice none 0 0, .slice none 0 0, .slice none 0 0, .slice (some ⟨w.heap.size, 0, none⟩) 1 1, .slice none 0 0, .slice none 0 0, .int .i64 0, .string ⟨#[98]⟩, .slice none 0 0, .slice none 0 0, .slice none 0 0, .slice none 0 0, .slice none 0 0, .slice none 0 0, .int .i64 0, .string ⟨#[99]⟩, .slice none 0 0, .slice none 0 0, .slice none 0 0, .slice none 0 0, .slice none 0 0, .slice none 0 0, .int .i64 0] 44)) (.slice (some ⟨w.heap.size, 0, none⟩) 1 1) [[98]] := sts_one O4 (List.mem_cons_of_mem _ (List.mem_cons_self ..))
  exact .cons ⟨rfl, rfl, n0, n0, n0, s1, n0, n0⟩ (.cons ⟨rfl, rfl, n0, n0, n0, n0, n0, n0⟩ (.cons ⟨rfl, rfl, n0, n0, n0, n0, n0, n0⟩ .nil))
theorem argD (w : World) : UArg (w.alloc (.cells #[.string ⟨#[98]⟩, .slice none 0 0, .slice none 0 0, .slice none 0 0, .slice none 0 0, .slice none 0 0, .slice none 0 0, .int .i64 0, .string ⟨#[97]⟩, .slice none 0 0, .slice none 0 0, .slice none 0 0, .slice none 0 0, .slice none 0 0, .slice none 0 0, .int .i64 0] 44)) (.slice (some ⟨w.heap.size, 0, none⟩) 2 2) usD ∧ Below w.heap.size w (w.alloc (.cells #[.string ⟨#[98]⟩, .slice none 0 0, .slice none 0 0, .slice none 0 0, .slice none 0 0, .slice none 0 0, .slice none 0 0, .int .i64 0, .string ⟨#[97]⟩, .slice none 0 0, .slice none 0 0, .slice none 0 0, .slice none 0 0, .slice none 0 0, .slice none 0 0, .int .i64 0] 44)) := by
  have O4 := (Own.start w).made_at 44 8 #[.string ⟨#[98]⟩, .slice none 0 0, .slice none 0 0, .slice none 0 0, .slice none 0 0, .slice none 0 0, .slice none 0 0, .int .i64 0, .string ⟨#[97]⟩, .slice none 0 0, .slice none 0 0, .slice none 0 0, .slice none 0 0, .slice none 0 0, .slice none 0 0, .int .i64 0] 2 w.heap.size rfl rfl (by unfold maxLen; decide)
  refine ⟨uarg_of (xs := [⟨[98], .slice none 0 0, .slice none 0 0, .slice none 0 0, .slice none 0 0, .slice none 0 0, .slice none 0 0, 0⟩, ⟨[97], .slice none 0 0, .slice none 0 0, .slice none 0 0, .slice none 0 0, .slice none 0 0, .slice none 0 0, 0⟩]) O4 ?_ (fun x hx => by
    simp only [List.mem_cons, List.not_mem_nil, or_false] at hx
    rcases hx with rfl | rfl <;> (intro v hv; simp only [List.mem_cons, List.not_mem_nil, or_false] at hv; rcases hv with rfl | rfl | rfl | rfl | rfl | rfl <;> first | exact .inl rfl | exact .inr ⟨_, _, _, rfl⟩)), O4.below⟩
  have n0 := sts_nil (w.alloc (.cells #[.string ⟨#[98]⟩, .slice none 0 0, .slice none 0 0, .slice none 0 0, .slice none 0 0, .slice none 0 0, .slice none 0 0, .int .i64 0, .string ⟨#[97]⟩, .slice none 0 0, .slice none 0 0, .slice none 0 0, .slice none 0 0, .slice none 0 0, .slice none 0 0, .int .i64 0] 44))
  exact .cons ⟨rfl, rfl, n0, n0, n0, n0, n0, n0⟩ (.cons ⟨rfl, rfl, n0, n0, n0, n0, n0, n0⟩ .nil)
theorem newC (w : World) : Calls Try.prog 6 #[.slice (some ⟨w.heap.size + 1, 0, none⟩) 3 3] ((w.alloc (.cells #[.string ⟨#[98]⟩] 9)).alloc (.cells #[.string ⟨#[97]⟩, .slice none 0 0, .slice none 0 0, .slice none 0 0, .slice (some ⟨w.heap.size, 0, none⟩) 1 1, .slice none 0 0, .slice none 0 0, .int .i64 0, .string ⟨#[98]⟩, .slice none 0 0, .slice none 0 0, .slice none 0 0, .slice none 0 0, .slice none 0 0, .slice none 0 0, .int .i64 0, .string ⟨#[99]⟩, .slice none 0 0, .slice none 0 0, .slice none 0 0, .slice none 0 0, .slice none 0 0, .slice none 0 0, .int .i64 0] 44)) fun e w' => ∃ g nb, e = .returned (.tuple #[.pointer (some ⟨g, 0, none⟩), .int .i64 0, .string nb]) ∧ GAt w' g usC [[98], [97], [99]] ∧ Below w.heap.size w w' := by
  obtain ⟨h1, h2⟩ := argC w
  refine (new_ok h1 (by decide) (by decide) (fun u hu => bnd_small (by
    simp only [usC, List.mem_cons, List.not_mem_nil, or_false] at hu
    rcases hu with rfl | rfl | rfl <;> decide)) errC).mono ?_
  rintro e w' ⟨g, nb, rfl, hG, hb⟩
  rw [ordC] at hG
  exact ⟨g, nb, rfl, hG, h2.trans (hb.mono h2.size)⟩
theorem newD (w : World) : Calls Try.prog 6 #[.slice (some ⟨w.heap.size, 0, none⟩) 2 2] (w.alloc (.cells #[.string ⟨#[98]⟩, .slice none 0 0, .slice none 0 0, .slice none 0 0, .slice none 0 0, .slice none 0 0, .slice none 0 0, .int .i64 0, .string ⟨#[97]⟩, .slice none 0 0, .slice none 0 0, .slice none 0 0, .slice none 0 0, .slice none 0 0, .slice none 0 0, .int .i64 0] 44)) fun e w' => ∃ g nb, e = .returned (.tuple #[.pointer (some ⟨g, 0, none⟩), .int .i64 0, .string nb]) ∧ GAt w' g usD [[97], [98]] ∧ Below w.heap.size w w' := by
  obtain ⟨h1, h2⟩ := argD w
  refine (new_ok h1 (by decide) (by decide) (fun u hu => bnd_small (by
    simp only [usD, List.mem_cons, List.not_mem_nil, or_false] at hu
    rcases hu with rfl | rfl <;> decide)) errD).mono ?_
  rintro e w' ⟨g, nb, rfl, hG, hb⟩
  rw [ordD] at hG
  exact ⟨g, nb, rfl, hG, h2.trans (hb.mono h2.size)⟩
end Go.Proofs.Ytnjabanjgckeoaa
