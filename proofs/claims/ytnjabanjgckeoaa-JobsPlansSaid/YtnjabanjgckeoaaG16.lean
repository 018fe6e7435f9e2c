/- Units that a law hands in; the document's example, plain. -/
import Derived.Test.YtnjabanjgckeoaaG15
namespace Go.Proofs.Ytnjabanjgckeoaa
open Go.RowKit
open Go.ChangeMaps (setBlock)
set_option linter.unusedVariables false
set_option linter.unusedSimpArgs false
set_option maxRecDepth 100000

def flatU (xs : List UV) : List Value := (xs.map UV.cells).flatten
theorem flatU_len (xs : List UV) : (flatU xs).length = xs.length * 8 := by
  unfold flatU
  induction xs with
  | nil => rfl
  | cons x r ih => rw [List.map_cons, List.flatten_cons, List.length_append, ih, List.length_cons, Nat.succ_mul]; show 8 + _ = _; omega
theorem flatU_at : ∀ (xs : List UV) (i : Nat) (h : i < xs.length), ((flatU xs).drop (i * 8)).take 8 = xs[i].cells := by
  intro xs
  induction xs with
  | nil => intro i h; exact absurd h (Nat.not_lt_zero _)
  | cons x r ih =>
    intro i h
    cases i with
    | zero =>
      show ((flatU (x :: r)).drop 0).take 8 = x.cells
      unfold flatU
      rw [List.drop_zero, List.map_cons, List.flatten_cons]
      exact List.take_left' rfl
    | succ i =>
      have := ih i (by simpa using h)
      have hi : i < r.length := by simpa using h
      show ((flatU (x :: r)).drop ((i + 1) * 8)).take 8 = r[i].cells
      rw [← this]
      unfold flatU
      rw [List.map_cons, List.flatten_cons, show (i + 1) * 8 = i * 8 + 8 from by omega, List.drop_append, List.drop_eq_nil_of_le (by show 8 ≤ _; omega), List.nil_append]
      rfl
theorem uarg_of {W0 : Base} {w : World} {L : List Rw} {xs : List UV} {us : List GU} {v : Value} (h : Own W0 w (⟨44, 8, v, us.length, flatU xs⟩ :: L)) (hu : Units w xs us) (hz : ∀ x ∈ xs, x.nilOk) : UArg w v us := by
  obtain ⟨a, c, rfl, _, _⟩ := h.sized
  refine ⟨a, c, xs, rfl, hu, fun i hi => ?_⟩
  have hpos : 0 < us.length := by rw [← hu.len]; omega
  obtain ⟨g, cap, e, _⟩ := h.form hpos
  injection e with e1 _ e3
  subst e1 e3
  refine ⟨⟨g, 0, rfl, ?_⟩, hz _ (List.getElem_mem hi)⟩
  have := h.range (i * 8) 8
  rw [flatU_at xs i hi] at this
  simpa using this
theorem sts_one {W0 : Base} {w : World} {L : List Rw} {g : Nat} {n : Nm} (h : Own W0 w L) (hm : (⟨9, 1, .slice (some ⟨g, 0, none⟩) 1 1, 1, [.string (toB n)]⟩ : Rw) ∈ L) : Sts w (.slice (some ⟨g, 0, none⟩) 1 1) [n] := h.stsMem hm

/-! ### The example -/
def gA : GU := ⟨[97], [], [], [], [[98]], [], [], 0⟩
def gB : GU := ⟨[98], [], [], [], [], [], [], 0⟩
def gC : GU := ⟨[99], [], [], [[98]], [], [], [[97]], 0⟩
def usA : List GU := [gA, gB, gC]
def hA : GU := ⟨[97], [], [[98]], [], [], [], [], 0⟩
def hB : GU := ⟨[98], [], [[97]], [], [], [], [], 0⟩
def usB : List GU := [hA, hB]
theorem errA : errU usA = 0 := by decide
theorem errB : errU usB = 19 := by decide
theorem headB : (placeU usB).2.head? = some [97] := by decide
theorem ordA : ordU usA = [[99], [98], [97]] := by decide
theorem namesA : sortN (namesU usA) = [[97], [98], [99]] := by decide
theorem behA : (if ([97] : Nm) ∈ namesU usA then aheadU usA [97] else []).length = 1 := by decide
theorem Just.len {l m : List Nm} {p : Nm → Prop} (h : Just l p) (hm : m.Nodup) (hp : ∀ n, p n ↔ n ∈ m) : l.length = m.length :=
  ((List.perm_ext_iff_of_nodup h.once hm).2 fun n => (h.mem n).trans (hp n)).length_eq
theorem leanA {l : List Nm} (h : Just l (LeanR usA [[98]])) : l.length = 3 := by
  refine h.len (m := [[97], [98], [99]]) (by decide) fun n => ⟨fun hn => ?_, fun hn => ?_⟩
  · have := hn.there
    revert this
    exact fun h => by simpa [namesU, usA, gA, gB, gC] using h
  · have hb : LeanR usA [[98]] [98] := .base (by decide) (by decide)
    have ha : LeanR usA [[98]] [97] := .step (u := gA) (x := [98]) (by simp [usA]) (.inl (by decide)) hb
    have hc : LeanR usA [[98]] [99] := .step (u := gC) (x := [97]) (by simp [usA]) (.inr (by decide)) ha
    simp only [List.mem_cons, List.not_mem_nil, or_false] at hn
    rcases hn with rfl | rfl | rfl
    · exact ha
    · exact hb
    · exact hc
theorem pullA {l : List Nm} (h : Just l (PullR usA [[97]])) : l.length = 2 := by
  refine h.len (m := [[97], [98]]) (by decide) fun n => ⟨fun hn => ?_, fun hn => ?_⟩
  · induction hn with
    | base _ h => simp only [List.mem_cons, List.not_mem_nil, or_false] at h ⊢; exact .inl h
    | @step u x hu hx _ _ =>
      simp only [usA, List.mem_cons, List.not_mem_nil, or_false] at hu
      rcases hu with rfl | rfl | rfl
      · simp only [gA, List.mem_cons, List.not_mem_nil, or_false] at hx ⊢; exact .inr hx
      · cases hx
      · cases hx
  · have ha : PullR usA [[97]] [97] := .base (by decide) (by decide)
    simp only [List.mem_cons, List.not_mem_nil, or_false] at hn
    rcases hn with rfl | rfl
    · exact ha
    · exact .step (u := gA) (by simp [usA]) (by decide) ha
end Go.Proofs.Ytnjabanjgckeoaa
