/- The disk and the document's disk: what they have in common is kept by every call. Plain data alone. -/
import Derived.Test.YthmcdmnjjofehaaDRef2
import Derived.Test.YthmcdmnjjofehaaDRef3
namespace Go.Proofs.Ythmcdmnjjofehaa
open Go.RowKit
set_option linter.unusedVariables false
set_option linter.unusedSimpArgs false

structure Rel (D : Dk) (R : Rf) : Prop where
  kept : D.kept = R.kept
  since : D.since = R.cache
  down : D.down = R.down
  steps : D.steps = R.steps
  left : D.left = if 1 ≤ R.fate then R.fate else 0
  keeps : 1 ≤ R.fate → D.keeps = R.keeps
  len : D.last.length = R.kept.length
  last : ∀ x, x < R.kept.length → D.last[x]? = some (rfOut R x R.cache.length)

/-- Was the sector x written by one of the first i writes? -/
def hit (S : List (Nat × List Value)) (x : Nat) : Nat → Bool
  | 0 => false
  | i + 1 => match S[i]? with
    | some p => p.1 == x || hit S x i
    | none => hit S x i
theorem lastTo_get (K : List (List Value)) (D : Dk) (x : Nat) (hx : x < D.last.length) (i : Nat) : (lastTo K D i)[x]? = if hit D.since x i then some (K.getD x []) else D.last[x]? := by
  induction i with
  | zero => rfl
  | succ i ih =>
    rw [lastTo]
    cases hp : D.since[i]? with
    | none =>
      have e : hit D.since x (i + 1) = hit D.since x i := by rw [hit, hp]
      rw [e]; exact ih
    | some p =>
      have e : hit D.since x (i + 1) = (p.1 == x || hit D.since x i) := by rw [hit, hp]
      rw [e]
      simp only
      rw [List.getElem?_set, lastTo_length]
      by_cases h : p.1 = x
      · rw [if_pos h, if_pos (by omega), h]
        simp
      · rw [if_neg h, ih]
        have : (p.1 == x) = false := by simpa using h
        rw [this, Bool.false_or]
theorem keptTo_get (D : Dk) (keeps : Int) (x : Nat) (i : Nat) (h : hit D.since x i = false) : (keptTo D keeps i)[x]? = D.kept[x]? := by
  induction i with
  | zero => rfl
  | succ i ih =>
    rw [hit] at h
    rw [keptTo]
    cases hp : D.since[i]? with
    | none => rw [hp] at h; exact ih h
    | some p =>
      rw [hp] at h
      simp only [Bool.or_eq_false_iff, beq_eq_false_iff_ne] at h
      simp only
      split
      · rw [List.getElem?_set, if_neg h.1, ih h.2]
      · exact ih h.2
theorem rfOut_get (R : Rf) (x : Nat) (i : Nat) (h : hit R.cache x i = false) : rfOut R x i = R.kept.getD x [] := by
  induction i with
  | zero => rfl
  | succ i ih =>
    rw [hit] at h
    rw [rfOut]
    cases hp : R.cache[i]? with
    | none => rw [hp] at h; exact ih h
    | some p =>
      rw [hp] at h
      simp only [Bool.or_eq_false_iff, beq_eq_false_iff_ne] at h
      simp only
      rw [if_neg h.1]
      exact ih h.2
theorem keptTo_rf {D : Dk} {R : Rf} (h : Rel D R) (keeps : Int) (i : Nat) : keptTo D keeps i = rfKept R keeps i := by
  induction i with
  | zero => exact h.kept
  | succ i ih =>
    rw [keptTo, rfKept, h.since, ih]
    cases R.cache[i]? <;> rfl
/-- Behind 'settle' each sector is as it is kept. -/
theorem settle_last {D : Dk} {R : Rf} (h : Rel D R) (keeps : Int) (x : Nat) (hx : x < R.kept.length) :
    (settleM D keeps).last[x]? = some ((rfKept R keeps R.cache.length).getD x []) := by
  have hl := h.len
  have e : (settleM D keeps).last = lastTo (rfKept R keeps R.cache.length) D D.since.length := by show lastTo (keptTo D keeps D.since.length) D D.since.length = _; rw [keptTo_rf h, h.since]
  rw [e, lastTo_get _ _ _ (by omega)]
  cases hh : hit D.since x D.since.length
  · rw [if_neg (by decide), h.last x hx]
    have hg := keptTo_get D keeps x _ hh
    rw [keptTo_rf h, h.kept, h.since] at hg
    rw [h.since] at hh
    rw [rfOut_get R x _ hh, List.getD_eq_getElem?_getD, List.getD_eq_getElem?_getD, hg]
  · rw [if_pos rfl]
theorem Rel.crash {D : Dk} {R : Rf} (h : Rel D R) (keeps : Int) : Rel (crashM D keeps) (rfCrash R keeps) := by
  refine ⟨?_, rfl, rfl, h.steps, rfl, fun h1 => absurd h1 (by show ¬ (1 : Int) ≤ -1; decide), ?_, fun x hx => ?_⟩
  · show keptTo D keeps D.since.length = rfKept R keeps R.cache.length
    rw [keptTo_rf h, h.since]
  · show (lastTo _ D _).length = (rfKept R keeps _).length
    rw [lastTo_length, rfKept_length, h.len]
  · have hx' : x < R.kept.length := by
      have : (rfCrash R keeps).kept.length = R.kept.length := rfKept_length _ _ _
      omega
    exact settle_last h keeps x hx'
theorem rfOut_le (R R' : Rf) (hk : R'.kept = R.kept) (x : Nat) (i : Nat) (hc : ∀ j, j < i → R'.cache[j]? = R.cache[j]?) : rfOut R' x i = rfOut R x i := by
  induction i with
  | zero => show R'.kept.getD x [] = _; rw [hk]; rfl
  | succ i ih => rw [rfOut, rfOut, hc i (by omega), ih fun j hj => hc j (by omega)]
theorem Rel.on {D : Dk} {R : Rf} (h : Rel D R) : Rel (onM D) { R with down := false } := by
  refine ⟨h.kept, h.since, rfl, h.steps, h.left, h.keeps, h.len, fun x hx => ?_⟩
  rw [rfOut_le R { R with down := false } rfl x _ (fun j hj => rfl)]
  exact h.last x hx
theorem Rel.plan {D : Dk} {R : Rf} (h : Rel D R) (n keeps : Int) : Rel (planM D n keeps) { R with fate := n, keeps := keeps } := by
  refine ⟨h.kept, h.since, h.down, h.steps, ?_, fun _ => rfl, h.len, fun x hx => ?_⟩
  · show max n 0 = if 1 ≤ n then n else 0
    split <;> omega
  · rw [rfOut_le R { R with fate := n, keeps := keeps } rfl x _ (fun j hj => rfl)]
    exact h.last x hx
theorem rfKept_fate (R : Rf) (s f keeps : Int) (i : Nat) : rfKept { R with steps := s, fate := f } keeps i = rfKept R keeps i := by
  induction i with
  | zero => rfl
  | succ i ih =>
    rw [rfKept, rfKept, ih]
theorem rfCrash_fate (R : Rf) (s f keeps : Int) : rfCrash { R with steps := s, fate := f } keeps = rfCrash { R with steps := s } keeps := by
  unfold rfCrash
  have e1 := rfKept_fate R s f keeps R.cache.length
  have e2 := rfKept_fate R s R.fate keeps R.cache.length
  simp only [Rf.mk.injEq, and_true, true_and]
  exact e1.trans e2.symm
theorem Rel.step {D : Dk} {R : Rf} (h : Rel D R) : Rel (stepM D).1 (rfStep R).1 ∧ (stepM D).2 = (if (rfStep R).2 then 0 else 3) := by
  have hl := h.left
  have hset : ∀ (l f : Int), l = (if 1 ≤ f then f else 0) → (1 ≤ f → D.keeps = R.keeps) → Rel { D with steps := D.steps + 1, left := l } { R with steps := R.steps + 1, fate := f } := by
    intro l f e1 e2
    refine ⟨h.kept, h.since, h.down, by show D.steps + 1 = R.steps + 1; rw [h.steps], e1, e2, h.len, fun x hx => ?_⟩
    rw [rfOut_le R { R with steps := R.steps + 1, fate := f } rfl x _ (fun j hj => rfl)]
    exact h.last x hx
  unfold stepM rfStep
  by_cases h1 : R.fate = 1
  · rw [if_pos h1]
    have e0 : D.left = 1 := by rw [hl, if_pos (by omega)]; exact h1
    rw [if_neg (by omega)]
    simp only
    rw [if_neg (by omega)]
    have hk := h.keeps (by omega)
    have := (hset (D.left - 1) 0 (by rw [if_neg (by decide)]; omega) (fun h => absurd h (by decide))).crash D.keeps
    rw [hk] at this ⊢
    rw [rfCrash_fate] at this
    exact ⟨this, rfl⟩
  · rw [if_neg h1]
    by_cases h2 : 1 < R.fate
    · rw [if_pos h2]
      have e0 : D.left = R.fate := by rw [hl, if_pos (by omega)]
      rw [if_neg (by omega)]
      simp only
      rw [if_pos (by omega)]
      exact ⟨hset (D.left - 1) (R.fate - 1) (by rw [if_pos (by omega)]; omega) (fun _ => h.keeps (by omega)), rfl⟩
    · rw [if_neg h2]
      have e0 : D.left = 0 := by rw [hl, if_neg (by omega)]
      rw [if_pos e0]
      exact ⟨hset D.left R.fate (by rw [hl]) h.keeps, rfl⟩
theorem Rel.refused {D : Dk} {R : Rf} (h : Rel D R) (at_ : Int) : refusedM D at_ = rfRefused R at_ := by
  unfold refusedM rfRefused
  rw [h.down, h.len]
def rfPut (R : Rf) (at_ : Int) (s : List Value) : Rf × Int :=
  if rfRefused R at_ ≠ 0 then (R, rfRefused R at_)
  else ((rfStep { R with cache := R.cache ++ [(at_.toNat, s)] }).1, if (rfStep { R with cache := R.cache ++ [(at_.toNat, s)] }).2 then 0 else 3)
theorem Rel.put {D : Dk} {R : Rf} (h : Rel D R) (x : Nat) (s : List Value) (hx : x < R.kept.length) : Rel (putM D x s) { R with cache := R.cache ++ [(x, s)] } := by
  refine ⟨h.kept, by show D.since ++ _ = R.cache ++ _; rw [h.since], h.down, h.steps, h.left, h.keeps, by show (D.last.set x s).length = _; rw [List.length_set]; exact h.len, fun y hy => ?_⟩
  show (D.last.set x s)[y]? = some (rfOut _ y (R.cache ++ [(x, s)]).length)
  have hl : (R.cache ++ [(x, s)]).length = R.cache.length + 1 := by simp
  have hlen := h.len
  have hg : (R.cache ++ [(x, s)])[R.cache.length]? = some (x, s) := by simp
  rw [hl, List.getElem?_set, rfOut]
  simp only [hg]
  by_cases hxy : x = y
  · rw [if_pos hxy, if_pos (by omega), if_pos hxy]
  · rw [if_neg hxy, if_neg hxy, h.last y hy, rfOut_le R { R with cache := R.cache ++ [(x, s)] } rfl y _ (fun j hj => by show (R.cache ++ [(x, s)])[j]? = _; rw [List.getElem?_append_left hj])]
theorem Rel.write {D : Dk} {R : Rf} (h : Rel D R) (at_ : Int) (s : List Value) : Rel (writeM D at_ s).1 (rfPut R at_ s).1 ∧ (writeM D at_ s).2 = (rfPut R at_ s).2 := by
  have hr := h.refused at_
  unfold writeM rfPut
  by_cases h0 : rfRefused R at_ = 0
  · rw [if_neg (by rw [hr]; simpa using h0), if_neg (by simpa using h0)]
    have hx : at_.toNat < R.kept.length := by
      unfold rfRefused at h0
      split at h0
      · cases h0
      · split at h0
        · cases h0
        · omega
    exact (h.put at_.toNat s hx).step
  · rw [if_pos (by rw [hr]; exact h0), if_pos h0]
    exact ⟨h, hr⟩
theorem Rel.flush {D : Dk} {R : Rf} (h : Rel D R) : Rel (flushM D).1 (rfFlush R).1 ∧ (flushM D).2 = (rfFlush R).2 := by
  cases hd : R.down
  · obtain ⟨h1, h2⟩ := h.step
    have e1 : flushM D = if (stepM D).2 ≠ 0 then stepM D else (settleM (stepM D).1 18446744073709551615, 0) := by unfold flushM; rw [h.down, hd]; rfl
    have e2 : rfFlush R = if (rfStep R).2 then ({ (rfStep R).1 with kept := rfKept (rfStep R).1 18446744073709551615 (rfStep R).1.cache.length, cache := [] }, 0) else ((rfStep R).1, 3) := by unfold rfFlush; rw [hd]; rfl
    rw [e1, e2]
    cases hb : (rfStep R).2
    · rw [hb, if_neg (by decide)] at h2
      rw [if_pos (by rw [h2]; decide), if_neg (by decide)]
      exact ⟨h1, h2⟩
    · rw [hb, if_pos rfl] at h2
      rw [if_neg (by rw [h2]; decide), if_pos rfl]
      refine ⟨⟨?_, rfl, h1.down, h1.steps, h1.left, h1.keeps, ?_, fun x hx => ?_⟩, rfl⟩
      · show keptTo _ _ _ = rfKept _ _ _
        rw [keptTo_rf h1, h1.since]
      · show (lastTo _ _ _).length = (rfKept _ _ _).length
        rw [lastTo_length, rfKept_length, h1.len]
      · have hx' : x < (rfStep R).1.kept.length := by
          have : x < (rfKept (rfStep R).1 18446744073709551615 (rfStep R).1.cache.length).length := hx
          rw [rfKept_length] at this
          exact this
        exact settle_last h1 _ x hx'
  · have e1 : flushM D = (D, 3) := by unfold flushM; rw [h.down, hd]; rfl
    have e2 : rfFlush R = (R, 3) := by unfold rfFlush; rw [hd]; rfl
    rw [e1, e2]
    exact ⟨h, rfl⟩
theorem Rel.read {D : Dk} {R : Rf} (h : Rel D R) (at_ : Int) : readM D at_ = rfRead R at_ := by
  have hr := h.refused at_
  unfold readM rfRead
  by_cases h0 : rfRefused R at_ = 0
  · rw [if_neg (by rw [hr]; simpa using h0), if_neg (by simpa using h0)]
    have hx : at_.toNat < R.kept.length := by
      unfold rfRefused at h0
      split at h0
      · cases h0
      · split at h0
        · cases h0
        · omega
    rw [List.getD_eq_getElem?_getD, h.last _ hx]
    rfl
  · rw [if_pos (by rw [hr]; exact h0), if_pos h0, hr]
end Go.Proofs.Ythmcdmnjjofehaa
