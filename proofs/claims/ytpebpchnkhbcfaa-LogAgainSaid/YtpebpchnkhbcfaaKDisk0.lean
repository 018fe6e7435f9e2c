/- A disk as plain data: sectors that are kept, sectors as they were written last, and what was written since the last Flush. What each of its calls makes of it. -/
import Derived.Test.YtpebpchnkhbcfaaKOwn
namespace Go.Proofs.Ytpebpchnkhbcfaa
open Go.RowKit
set_option linter.unusedVariables false
set_option linter.unusedSimpArgs false

/-- A sector: 64 cells. -/
structure Dk where
  kept : List (List Value)
  last : List (List Value)
  since : List (Nat × List Value)
  steps : Int
  left : Int
  keeps : Int
  down : Bool

abbrev isSec (s : List Value) : Prop := s.length = 64 ∧ ∀ v ∈ s, v.oneCell' = true
structure Dk.Ok (D : Dk) : Prop where
  pos : 0 < D.last.length
  len : D.kept.length = D.last.length
  le : D.last.length ≤ 4096
  kept : ∀ s ∈ D.kept, isSec s
  last : ∀ s ∈ D.last, isSec s
  since : ∀ p ∈ D.since, p.1 < D.last.length ∧ isSec p.2
  many : D.since.length ≤ 1000000
  steps0 : 0 ≤ D.steps
  left0 : 0 ≤ D.left
  left1 : D.left ≤ 9223372036854775807
  keeps0 : 0 ≤ D.keeps
  keeps1 : D.keeps < 18446744073709551616

/-- Is the bit i modulo 64 set? -/
def bitOf (keeps : Int) (i : Nat) : Bool := keeps.toNat.testBit (i % 64)
/-- What is kept of the first i writes. -/
def keptTo (D : Dk) (keeps : Int) : Nat → List (List Value)
  | 0 => D.kept
  | i + 1 => match D.since[i]? with
    | some p => if bitOf keeps i then (keptTo D keeps i).set p.1 p.2 else keptTo D keeps i
    | none => keptTo D keeps i
/-- The sectors that were written are as they are kept. -/
def lastTo (K : List (List Value)) (D : Dk) : Nat → List (List Value)
  | 0 => D.last
  | i + 1 => match D.since[i]? with
    | some p => (lastTo K D i).set p.1 (K.getD p.1 [])
    | none => lastTo K D i
def settleM (D : Dk) (keeps : Int) : Dk := { D with kept := keptTo D keeps D.since.length, last := lastTo (keptTo D keeps D.since.length) D D.since.length, since := [] }
def planM (D : Dk) (n keeps : Int) : Dk := { D with left := max n 0, keeps := keeps }
def crashM (D : Dk) (keeps : Int) : Dk := { planM (settleM D keeps) 0 0 with down := true }
def onM (D : Dk) : Dk := { D with down := false }
def refusedM (D : Dk) (at_ : Int) : Int := if D.down then 3 else if at_ < 0 ∨ (D.last.length : Int) ≤ at_ then 2 else 0
def stepM (D : Dk) : Dk × Int :=
  let D1 := { D with steps := D.steps + 1 }
  if D.left = 0 then (D1, 0)
  else
    let D2 := { D1 with left := D.left - 1 }
    if 0 < D.left - 1 then (D2, 0) else (crashM D2 D.keeps, 3)
def putM (D : Dk) (i : Nat) (s : List Value) : Dk := { D with last := D.last.set i s, since := D.since ++ [(i, s)] }
def writeM (D : Dk) (at_ : Int) (s : List Value) : Dk × Int :=
  if refusedM D at_ ≠ 0 then (D, refusedM D at_) else stepM (putM D at_.toNat s)
def flushM (D : Dk) : Dk × Int :=
  if D.down then (D, 3)
  else
    let r := stepM D
    if r.2 ≠ 0 then r else (settleM r.1 18446744073709551615, 0)

/-! ### Lengths -/
theorem keptTo_length (D : Dk) (keeps : Int) (i : Nat) : (keptTo D keeps i).length = D.kept.length := by
  induction i with
  | zero => rfl
  | succ i ih => rw [keptTo]; split; split <;> simp [ih]; exact ih
theorem lastTo_length (K : List (List Value)) (D : Dk) (i : Nat) : (lastTo K D i).length = D.last.length := by
  induction i with
  | zero => rfl
  | succ i ih => rw [lastTo]; split <;> simp [ih]
theorem keptTo_sec (D : Dk) (h : D.Ok) (keeps : Int) (i : Nat) : ∀ s ∈ keptTo D keeps i, isSec s := by
  induction i with
  | zero => exact h.kept
  | succ i ih =>
    rw [keptTo]
    split
    · rename_i p hp
      split
      · intro s hs
        rcases List.mem_or_eq_of_mem_set hs with h1 | rfl
        · exact ih s h1
        · exact (h.since p (List.mem_of_getElem? hp)).2
      · exact ih
    · exact ih
theorem lastTo_sec (D : Dk) (h : D.Ok) (K : List (List Value)) (hK : ∀ s ∈ K, isSec s) (hl : K.length = D.last.length) (i : Nat) : ∀ s ∈ lastTo K D i, isSec s := by
  induction i with
  | zero => exact h.last
  | succ i ih =>
    rw [lastTo]
    split
    · rename_i p hp
      intro s hs
      rcases List.mem_or_eq_of_mem_set hs with h1 | rfl
      · exact ih s h1
      · have hlt := (h.since p (List.mem_of_getElem? hp)).1
        rw [List.getD_eq_getElem?_getD, List.getElem?_eq_getElem (by omega)]
        exact hK _ (List.getElem_mem _)
    · exact ih
theorem settleM_ok (D : Dk) (h : D.Ok) (keeps : Int) : (settleM D keeps).Ok := by
  refine ⟨?_, ?_, ?_, keptTo_sec D h keeps _, lastTo_sec D h _ (keptTo_sec D h keeps _) (by rw [keptTo_length, h.len]) _, (fun p hp => by cases hp), Nat.zero_le _, h.steps0, h.left0, h.left1, h.keeps0, h.keeps1⟩
  · show 0 < (lastTo _ D _).length; rw [lastTo_length]; exact h.pos
  · show (keptTo D _ _).length = (lastTo _ D _).length; rw [keptTo_length, lastTo_length, h.len]
  · show (lastTo _ D _).length ≤ _; rw [lastTo_length]; exact h.le
theorem planM_ok (D : Dk) (h : D.Ok) (n keeps : Int) (hn : n ≤ 9223372036854775807) (h0 : 0 ≤ keeps) (h1 : keeps < 18446744073709551616) : (planM D n keeps).Ok :=
  ⟨h.pos, h.len, h.le, h.kept, h.last, h.since, h.many, h.steps0, by show 0 ≤ max n 0; omega, by show max n 0 ≤ _; omega, h0, h1⟩
theorem crashM_ok (D : Dk) (h : D.Ok) (keeps : Int) : (crashM D keeps).Ok := by
  have h1 := planM_ok _ (settleM_ok D h keeps) 0 0 (by decide) (by decide) (by decide)
  exact ⟨h1.pos, h1.len, h1.le, h1.kept, h1.last, h1.since, h1.many, h1.steps0, h1.left0, h1.left1, h1.keeps0, h1.keeps1⟩
theorem onM_ok (D : Dk) (h : D.Ok) : (onM D).Ok := ⟨h.pos, h.len, h.le, h.kept, h.last, h.since, h.many, h.steps0, h.left0, h.left1, h.keeps0, h.keeps1⟩
theorem stepM_ok (D : Dk) (h : D.Ok) : (stepM D).1.Ok := by
  unfold stepM
  have h0 := h.left0
  have h1 := h.left1
  have hs := h.steps0
  have ho : ∀ l : Int, 0 ≤ l → l ≤ 9223372036854775807 → ({ D with steps := D.steps + 1, left := l } : Dk).Ok := fun l a b => ⟨h.pos, h.len, h.le, h.kept, h.last, h.since, h.many, by show 0 ≤ D.steps + 1; omega, a, b, h.keeps0, h.keeps1⟩
  split
  · exact ho D.left h0 h1
  · split
    · exact ho (D.left - 1) (by omega) (by omega)
    · exact crashM_ok _ (ho (D.left - 1) (by omega) (by omega)) _
theorem putM_ok (D : Dk) (h : D.Ok) (i : Nat) (s : List Value) (hi : i < D.last.length) (hs : isSec s) (hm : D.since.length < 1000000) : (putM D i s).Ok := by
  refine ⟨?_, ?_, ?_, h.kept, ?_, ?_, ?_, h.steps0, h.left0, h.left1, h.keeps0, h.keeps1⟩
  · show 0 < (D.last.set i s).length; rw [List.length_set]; exact h.pos
  · show _ = (D.last.set i s).length; rw [List.length_set]; exact h.len
  · show (D.last.set i s).length ≤ _; rw [List.length_set]; exact h.le
  · intro t ht
    rcases List.mem_or_eq_of_mem_set ht with h1 | rfl
    · exact h.last t h1
    · exact hs
  · intro p hp
    show p.1 < (D.last.set i s).length ∧ _
    rw [List.length_set]
    rcases List.mem_append.1 hp with h1 | h1
    · exact h.since p h1
    · obtain rfl : p = (i, s) := by simpa using h1
      exact ⟨hi, hs⟩
  · show (D.since ++ [(i, s)]).length ≤ _; simp; omega

/-! ### Sectors lie one behind the other -/
theorem flat_length (k : Nat) : ∀ (L : List (List Value)), (∀ s ∈ L, s.length = k) → L.flatten.length = L.length * k
  | [], _ => by simp
  | s :: L, h => by
    rw [List.flatten_cons, List.length_append, flat_length k L (fun t ht => h t (by simp [ht])), h s (by simp), List.length_cons, Nat.succ_mul, Nat.add_comm]
theorem flat_take (k : Nat) : ∀ (L : List (List Value)), (∀ s ∈ L, s.length = k) → ∀ i (hi : i < L.length), (L.flatten.drop (i * k)).take k = L[i]
  | [], _, i, hi => by simp at hi
  | s :: L, h, 0, _ => by
    have hs := h s (by simp)
    rw [List.flatten_cons, Nat.zero_mul, List.drop_zero, List.getElem_cons_zero, ← hs, List.take_left']
    rfl
  | s :: L, h, i + 1, hi => by
    have hs := h s (by simp)
    rw [List.flatten_cons, List.getElem_cons_succ, show (i + 1) * k = s.length + i * k from by rw [hs, Nat.succ_mul, Nat.add_comm], ← List.drop_drop, List.drop_left']
    · exact flat_take k L (fun t ht => h t (by simp [ht])) i (by simpa using hi)
    · rfl
theorem flat_get (k : Nat) (hk : 0 < k) (L : List (List Value)) (h : ∀ s ∈ L, s.length = k) (i j : Nat) (hi : i < L.length) (hj : j < k) : L.flatten[i * k + j]? = (L[i])[j]? := by
  have h1 := congrArg (fun l => l[j]?) (flat_take k L h i hi)
  simp only [List.getElem?_take, if_pos hj, List.getElem?_drop] at h1
  exact h1
theorem flat_splice (k : Nat) (hk : 0 < k) (L : List (List Value)) (h : ∀ s ∈ L, s.length = k) (i : Nat) (hi : i < L.length) (s : List Value) (hs : s.length = k) : splice L.flatten (i * k) s = (L.set i s).flatten := by
  have h' : ∀ t ∈ L.set i s, t.length = k := fun t ht => by
    rcases List.mem_or_eq_of_mem_set ht with h1 | rfl
    · exact h t h1
    · exact hs
  have hl := flat_length k L h
  have hle : i * k + k ≤ L.length * k := by rw [← Nat.succ_mul]; exact Nat.mul_le_mul_right k hi
  apply List.ext_getElem?
  intro q
  rw [splice_get _ _ _ _ (by omega)]
  by_cases hq : q < L.length * k
  · have hqd : q = q / k * k + q % k := by rw [Nat.mul_comm]; exact (Nat.div_add_mod q k).symm
    have hqi : q / k < L.length := by rw [Nat.div_lt_iff_lt_mul hk]; exact hq
    have hqm : q % k < k := Nat.mod_lt _ hk
    have e2 : (L.set i s).flatten[q]? = ((L.set i s)[q / k]'(by rw [List.length_set]; exact hqi))[q % k]? := by
      conv => lhs; rw [hqd]
      exact flat_get k hk (L.set i s) h' (q / k) (q % k) (by rw [List.length_set]; exact hqi) hqm
    have e1 : L.flatten[q]? = (L[q / k])[q % k]? := by
      conv => lhs; rw [hqd]
      exact flat_get k hk L h (q / k) (q % k) hqi hqm
    rw [e2, List.getElem_set]
    by_cases hiq : i = q / k
    · rw [if_pos hiq, if_pos]
      · congr 1
        have : i * k = q / k * k := by rw [hiq]
        omega
      · have : i * k = q / k * k := by rw [hiq]
        omega
    · rw [if_neg hiq, e1, if_neg]
      intro hc
      apply hiq
      have h3 : i * k ≤ q := hc.1
      have h4 : q < (i + 1) * k := by rw [Nat.succ_mul]; omega
      have h5 : i ≤ q / k := (Nat.le_div_iff_mul_le hk).2 h3
      have h6 : q / k < i + 1 := (Nat.div_lt_iff_lt_mul hk).2 h4
      omega
  · rw [if_neg (by omega), List.getElem?_eq_none (by omega), List.getElem?_eq_none]
    rw [flat_length k _ h', List.length_set]
    omega
/-- The cells of what was written since the last Flush. -/
def wcells (p : Nat × List Value) : List Value := .int .i64 (p.1 : Int) :: p.2
end Go.Proofs.Ytpebpchnkhbcfaa
