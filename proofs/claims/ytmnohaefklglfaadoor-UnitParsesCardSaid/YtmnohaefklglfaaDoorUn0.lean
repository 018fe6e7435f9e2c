/- Units as plain data: lines, words, what a line says, what a text says. Of no program. -/
import Derived.Test.YtmnohaefklglfaaDoorPMath
namespace Go.Proofs.YtmnohaefklglfaaDoor
open Go.RowKit
set_option linter.unusedVariables false
set_option linter.unusedSimpArgs false

/-- A line's first word, and all behind its blank. -/
def cutL : List UInt8 → List UInt8 × List UInt8
  | [] => ([], [])
  | c :: l => if c = 32 then ([], l) else (c :: (cutL l).1, (cutL l).2)
theorem cutL_word {w : List UInt8} (h : (32 : UInt8) ∉ w) (r : List UInt8) : cutL (w ++ 32 :: r) = (w, r) := by
  induction w with
  | nil => simp [cutL]
  | cons c w ih =>
    have h1 : c ≠ 32 := fun e => h (e ▸ List.mem_cons_self ..)
    have h2 := ih (fun hm => h (List.mem_cons_of_mem _ hm))
    simp [cutL, h1, h2]
theorem cut_any (l : List UInt8) : (Lib.cut l [32]).1 = (cutL l).1 ∧ (Lib.cut l [32]).2.1 = (cutL l).2 := by
  have main : ∀ l : List UInt8, (Lib.index l [32] = -1 ∧ cutL l = (l, [])) ∨ ∃ k : Nat, Lib.index l [32] = k ∧ cutL l = (l.take k, l.drop (k + 1)) := by
    intro l
    induction l with
    | nil => exact .inl ⟨rfl, rfl⟩
    | cons c l ih =>
      by_cases hc : c = 32
      · subst hc
        right
        refine ⟨0, ?_, ?_⟩
        · rw [Lib.index]; simp [List.isPrefixOf]
        · simp [cutL]
      · have hp : ([32] : List UInt8).isPrefixOf (c :: l) = false := by simp [List.isPrefixOf, Ne.symm hc]
        have hix : Lib.index (c :: l) [32] = if Lib.index l [32] == -1 then -1 else Lib.index l [32] + 1 := by rw [Lib.index, hp]; simp
        rcases ih with ⟨h1, h2⟩ | ⟨k, h1, h2⟩
        · left
          rw [hix, h1]
          exact ⟨rfl, by simp [cutL, hc, h2]⟩
        · right
          refine ⟨k + 1, ?_, ?_⟩
          · have h3 : ¬ (((k : Int) == -1) = true) := fun e => by have := beq_iff_eq.1 e; omega
            rw [hix, h1, if_neg h3]; omega
          · simp [cutL, hc, h2]
  unfold Lib.cut
  rcases main l with ⟨h1, h2⟩ | ⟨k, h1, h2⟩
  · rw [h1, if_neg (by omega), h2]; exact ⟨rfl, rfl⟩
  · rw [h1, if_pos (by omega), h2]; simp

/-- The lines between bytes 10. -/
def linesL : List UInt8 → List (List UInt8)
  | [] => [[]]
  | c :: l => if c = 10 then [] :: linesL l else glue [c] (linesL l)
theorem linesL_ne (l : List UInt8) : linesL l ≠ [] := by
  cases l with
  | nil => simp [linesL]
  | cons c l => unfold linesL; split <;> simp [glue]; split <;> simp
theorem lines_len (l : List UInt8) : (linesL l).length ≤ l.length + 1 := by
  induction l with
  | nil => simp [linesL]
  | cons c l ih =>
    unfold linesL
    split
    · simp; omega
    · rw [glue_length _ (linesL_ne l)]; simp; omega
theorem lines_le (l : List UInt8) : ∀ p ∈ linesL l, p.length ≤ l.length := by
  induction l with
  | nil => simp [linesL]
  | cons c l ih =>
    unfold linesL
    split
    · intro p hp
      rcases List.mem_cons.1 hp with rfl | hp
      · simp
      · have := ih p hp; simp; omega
    · have hne := linesL_ne l
      generalize linesL l = r at *
      cases r with
      | nil => exact absurd rfl hne
      | cons q r =>
        intro p hp
        rcases List.mem_cons.1 hp with rfl | hp
        · have := ih q (List.mem_cons_self ..); simp; omega
        · have := ih p (List.mem_cons_of_mem _ hp); simp; omega
/-- Bytes without a byte 10, and then one: a line more. -/
theorem lines_line {p : List UInt8} (h : (10 : UInt8) ∉ p) (l : List UInt8) : linesL (p ++ 10 :: l) = p :: linesL l := by
  induction p with
  | nil => simp [linesL]
  | cons c p ih =>
    have h1 : c ≠ 10 := fun e => h (e ▸ List.mem_cons_self ..)
    rw [List.cons_append, linesL, if_neg h1, ih (fun hm => h (List.mem_cons_of_mem _ hm))]
    rfl
theorem lines_last {p : List UInt8} (h : (10 : UInt8) ∉ p) : linesL p = [p] := by
  induction p with
  | nil => rfl
  | cons c p ih =>
    have h1 : c ≠ 10 := fun e => h (e ▸ List.mem_cons_self ..)
    rw [linesL, if_neg h1, ih (fun hm => h (List.mem_cons_of_mem _ hm))]
    rfl
theorem lines_sep (a l : List UInt8) : linesL (a ++ 10 :: l) = linesL a ++ linesL l := by
  induction a with
  | nil => simp [linesL]
  | cons c a ih =>
    rw [List.cons_append, show linesL (c :: (a ++ 10 :: l)) = if c = 10 then [] :: linesL (a ++ 10 :: l) else glue [c] (linesL (a ++ 10 :: l)) from rfl, show linesL (c :: a) = if c = 10 then [] :: linesL a else glue [c] (linesL a) from rfl, ih]
    split
    · rfl
    · have hne := linesL_ne a
      generalize linesL a = r at *
      cases r with
      | nil => exact absurd rfl hne
      | cons q r => rfl

/-- A unit as plain data: its name (none: nothing was said), its six lists, how often its start is tried again. -/
structure UD where
  name : List UInt8
  ls : List (List (List UInt8))
  retry : Option Nat
def UD0 : UD := ⟨[], [[], [], [], [], [], []], none⟩
def wUnit : List UInt8 := [117, 110, 105, 116]
def wRetry : List UInt8 := [114, 101, 116, 114, 121]
def wordsU : List (List UInt8) := [[102, 105, 108, 101], [97, 102, 116, 101, 114], [98, 101, 102, 111, 114, 101], [114, 101, 113, 117, 105, 114, 101, 115], [119, 97, 110, 116, 115], [112, 97, 114, 116, 111, 102]]
/-- A word's number among some. -/
def findW (w : List UInt8) : List (List UInt8) → Option Nat
  | [] => none
  | x :: r => if x = w then some 0 else (findW w r).map (· + 1)
def wordAt (w : List UInt8) : Option Nat := findW w wordsU
theorem findW_lt {w : List UInt8} : ∀ {l : List (List UInt8)} {k : Nat}, findW w l = some k → k < l.length ∧ l[k]? = some w := by
  intro l
  induction l with
  | nil => intro k h; cases h
  | cons x r ih =>
    intro k h
    unfold findW at h
    split at h
    · rename_i hx
      injection h with h
      subst h
      exact ⟨by simp, by simp [hx]⟩
    · cases hr : findW w r with
      | none => rw [hr] at h; cases h
      | some j =>
        rw [hr] at h
        injection h with h
        subst h
        have := ih hr
        exact ⟨by simp; omega, by simpa using this.2⟩
def rightU (k : Nat) (r : List UInt8) : Bool := if k = 0 then decide (namesL r ≠ []) else nameL r
def listU (u : UD) (k : Nat) : List (List UInt8) := u.ls.getD k []
def linkU (u : UD) (k : Nat) (r : List UInt8) : UD × Int :=
  if rightU k r = false then (u, 14) else if r ∈ listU u k then (u, 9) else if (listU u k).length = 8 then (u, 22) else ({ u with ls := u.ls.set k (listU u k ++ [r]) }, 0)
def digitU (r : List UInt8) : Option Nat := match r with
  | [c] => if 48 ≤ c.toNat ∧ c.toNat ≤ 51 then some (c.toNat - 48) else none
  | _ => none
def nameU (u : UD) (r : List UInt8) : UD × Int := if nameL r = false then (u, 14) else if u.name ≠ [] then (u, 9) else ({ u with name := r }, 0)
def retryU (u : UD) (r : List UInt8) : UD × Int := match digitU r with
  | none => (u, 2)
  | some d => if u.retry.isSome then (u, 9) else ({ u with retry := some d }, 0)
def pickU (u : UD) (x r : List UInt8) : UD × Int := match wordAt x with
  | none => (u, 4)
  | some k => linkU u k r
def lineU (u : UD) (l : List UInt8) : UD × Int :=
  if (cutL l).1 = wUnit then nameU u (cutL l).2 else if (cutL l).1 = wRetry then retryU u (cutL l).2 else pickU u (cutL l).1 (cutL l).2
def stepU (u : UD) (l : List UInt8) : UD × Int := if l = [] ∨ l.head? = some 35 then (u, 0) else lineU u l
def runU (u : UD) (n : Nat) : List (List UInt8) → Int × Nat × UD
  | [] => (0, n, u)
  | l :: r => if (stepU u l).2 = 0 then runU (stepU u l).1 (n + 1) r else ((stepU u l).2, n + 1, u)
def endU (x : Int × Nat × UD) : Int × Nat × UD := if x.1 ≠ 0 then (x.1, x.2.1, UD0) else if x.2.2.name = [] ∨ listU x.2.2 0 = [] then (8, 0, UD0) else (0, 0, x.2.2)
def parseU (s : List UInt8) : Int × Nat × UD := endU (runU UD0 0 (linesL s))

/-! ### What always holds of what was said -/
structure UOk (u : UD) : Prop where
  name : u.name = [] ∨ nameL u.name = true
  six : u.ls.length = 6
  each : ∀ k, k < 6 → (∀ r ∈ listU u k, rightU k r = true) ∧ (listU u k).Nodup ∧ (listU u k).length ≤ 8
  retry : u.retry.getD 0 ≤ 3
theorem UOk.zero : UOk UD0 := ⟨.inl rfl, rfl, fun k hk => by
  have : listU UD0 k = [] := by
    match k, hk with
    | 0, _ => rfl
    | 1, _ => rfl
    | 2, _ => rfl
    | 3, _ => rfl
    | 4, _ => rfl
    | 5, _ => rfl
  rw [this]
  exact ⟨fun r hr => (by cases hr), List.nodup_nil, Nat.zero_le _⟩, Nat.zero_le _⟩
theorem listU_set {u : UD} {k : Nat} (hk : k < u.ls.length) (x : List (List UInt8)) (j : Nat) : listU { u with ls := u.ls.set k x } j = if j = k then x else listU u j := by
  unfold listU
  simp only [List.getD_eq_getElem?_getD, List.getElem?_set]
  by_cases h : k = j
  · subst h; simp [hk]
  · simp [h, Ne.symm h]
theorem digitU_le {r : List UInt8} {d : Nat} (h : digitU r = some d) : d ≤ 3 := by
  unfold digitU at h
  split at h
  · split at h
    · injection h with h; omega
    · cases h
  · cases h
theorem nodup_snoc {α : Type} {l : List α} {x : α} (h : l.Nodup) (hx : x ∉ l) : (l ++ [x]).Nodup :=
  List.nodup_append.2 ⟨h, by simp, fun a ha b hb e => hx (by rw [List.mem_singleton] at hb; rw [← hb, ← e]; exact ha)⟩
theorem UOk.link {u : UD} (h : UOk u) {k : Nat} (hk : k < 6) (r : List UInt8) : UOk (linkU u k r).1 := by
  unfold linkU
  split
  · exact h
  · rename_i h1
    split
    · exact h
    · rename_i h2
      split
      · exact h
      · rename_i h3
        have hl : k < u.ls.length := by rw [h.six]; exact hk
        refine ⟨h.name, by simp [h.six], fun j hj => ?_, h.retry⟩
        rw [listU_set hl]
        by_cases hjk : j = k
        · subst hjk
          rw [if_pos rfl]
          obtain ⟨e1, e2, e3⟩ := h.each j hj
          refine ⟨fun x hx => ?_, nodup_snoc e2 h2, ?_⟩
          · rcases List.mem_append.1 hx with hx | hx
            · exact e1 x hx
            · rw [List.mem_singleton.1 hx]; simpa using h1
          · simp; omega
        · rw [if_neg hjk]; exact h.each j hj
theorem UOk.step {u : UD} (h : UOk u) (l : List UInt8) : UOk (stepU u l).1 := by
  unfold stepU
  split
  · exact h
  · unfold lineU
    split
    · unfold nameU
      split
      · exact h
      · rename_i h1
        split
        · exact h
        · exact ⟨.inr (by simpa using h1), h.six, h.each, h.retry⟩
    · split
      · unfold retryU
        split
        · exact h
        · rename_i d hd
          split
          · exact h
          · exact ⟨h.name, h.six, h.each, digitU_le hd⟩
      · unfold pickU
        split
        · exact h
        · rename_i k hk
          exact h.link (findW_lt hk).1 _
theorem UOk.run {u : UD} (h : UOk u) (n : Nat) (ls : List (List UInt8)) : UOk (runU u n ls).2.2 := by
  induction ls generalizing u n with
  | nil => exact h
  | cons l r ih =>
    unfold runU
    split
    · exact ih (h.step l) _
    · exact h
theorem UOk.parse (s : List UInt8) : UOk (parseU s).2.2 := by
  unfold parseU endU
  split
  · exact UOk.zero
  · split
    · exact UOk.zero
    · exact UOk.zero.run 0 _
theorem step_err {u : UD} {l : List UInt8} (h : (stepU u l).2 ≠ 0) : (stepU u l).1 = u := by
  revert h
  unfold stepU
  split
  · intro _; rfl
  · unfold lineU
    split
    · unfold nameU
      split
      · intro _; rfl
      · split
        · intro _; rfl
        · intro h; exact absurd rfl h
    · split
      · unfold retryU
        split
        · intro _; rfl
        · split
          · intro _; rfl
          · intro h; exact absurd rfl h
      · unfold pickU
        split
        · intro _; rfl
        · unfold linkU
          split
          · intro _; rfl
          · split
            · intro _; rfl
            · split
              · intro _; rfl
              · intro h; exact absurd rfl h
end Go.Proofs.YtmnohaefklglfaaDoor
