/- What the law DiskKeeps needs of a disk as plain data; and small laws, beside maps. -/
import Derived.Test.YthmcdmnjjofehaaKOps
import Derived.LoopTactic
namespace Go.Proofs.Ythmcdmnjjofehaa
open Go.RowKit
set_option linter.unusedVariables false
set_option linter.unusedSimpArgs false

theorem zero_op (w : World) : Sem.run Try.prog (zeroValue 33) w = .ok (.agg #[.int .i64 0, .int .i64 0, .int .u8 0, .int .u64 0]) w := by kernel_rfl
theorem info_op (k x y p : Int) : (Try.prog.info? 33).map (·.size) = some (opCells k x y p).length := by
  show _ = some 4
  kernel_rfl
theorem op_one (k x y p : Int) : ∀ v ∈ opCells k x y p, v.oneCell' = true := by
  intro v hv
  simp only [opCells, List.mem_cons, List.not_mem_nil, or_false] at hv
  rcases hv with rfl | rfl | rfl | rfl <;> rfl

theorem DkAt.drop {W0 : Base} {w : World} {d : Nat} {D : Dk} {L : List Rw} {r : Rw} (h : DkAt W0 w d D (r :: L)) : DkAt W0 w d D L := by
  obtain ⟨hD, kb, lb, n, sv, hn, hO⟩ := h
  exact ⟨hD, kb, lb, n, sv, hn, hO.fifth.tail⟩
theorem Own.one {W0 : Base} {w : World} {L : List Rw} (h : Own W0 w L) {r : Rw} (hm : r ∈ L) : Own W0 w [r] := ⟨h.below, fun p hp => by rw [List.mem_singleton.1 hp]; exact h.rows r hm, List.pairwise_singleton _ _, h.maps, fun m hm p hp => by rw [List.mem_singleton.1 hp]; exact h.offmaps m hm r ‹_›⟩
theorem DkAt.one {W0 : Base} {w : World} {d : Nat} {D : Dk} {L : List Rw} (h : DkAt W0 w d D L) {r : Rw} (hm : r ∈ L) : Own W0 w [r] := by
  obtain ⟨hD, kb, lb, m, sv, hn, hO⟩ := h
  exact hO.one (List.mem_cons_of_mem _ (List.mem_cons_of_mem _ (List.mem_cons_of_mem _ (List.mem_cons_of_mem _ hm))))

theorem new_any (W0 : Base) (w : World) (L : List Rw) (m : Nat) (h : Own W0 w L) (hm : m ≤ 4096) : Calls Try.prog 8 #[.int .i64 (m : Int)] w (NewAt W0 (max 1 m) L) := by
  by_cases h0 : m = 0
  · subst h0; exact new_zero W0 w L h
  · rw [Nat.max_eq_right (by omega)]; exact new_pos W0 w L m h (by omega) hm

theorem write_nought (D : Dk) (hd : D.down = false) (hl : D.left = 0) (x : Int) (s : List Value) :
    (writeM D x s).1.down = false ∧ (writeM D x s).1.left = 0 ∧ (writeM D x s).1.last.length = D.last.length ∧ (writeM D x s).1.steps ≤ D.steps + 1 ∧ (writeM D x s).1.since.length ≤ D.since.length + 1 := by
  unfold writeM
  split
  · exact ⟨hd, hl, rfl, by show D.steps ≤ _; omega, by show D.since.length ≤ _; omega⟩
  · unfold stepM
    rw [if_pos (show (putM D x.toNat s).left = 0 from hl)]
    exact ⟨hd, hl, by show (D.last.set _ _).length = _; rw [List.length_set], Int.le_refl _, by show (D.since ++ [_]).length ≤ _; simp⟩
theorem read_down (D : Dk) (hd : D.down = true) (x : Int) : (readM D x).1 = zSec ∧ (readM D x).2 = 3 := by
  have : refusedM D x = 3 := by unfold refusedM; rw [hd]; rfl
  unfold readM
  rw [this]; exact ⟨rfl, rfl⟩
theorem write_down (D : Dk) (hd : D.down = true) (x : Int) (s : List Value) : (writeM D x s).1 = D ∧ (writeM D x s).2 = 3 := by
  have : refusedM D x = 3 := by unfold refusedM; rw [hd]; rfl
  unfold writeM
  rw [this]; exact ⟨rfl, rfl⟩
theorem flush_down (D : Dk) (hd : D.down = true) : (flushM D).1 = D ∧ (flushM D).2 = 3 := by
  unfold flushM
  rw [hd]; exact ⟨rfl, rfl⟩
theorem read_up (D : Dk) (hd : D.down = false) (k : Nat) (hk : k < D.last.length) : (readM D k).1 = D.last[k] ∧ (readM D k).2 = 0 := by
  have : refusedM D k = 0 := by unfold refusedM; rw [hd, if_neg (by decide), if_neg (by omega)]
  unfold readM
  rw [this]
  refine ⟨?_, rfl⟩
  show D.last.getD k [] = _
  rw [List.getD_eq_getElem?_getD, List.getElem?_eq_getElem hk]; rfl


/-- What isn't written since is kept as it was written last. -/
def Dk.Even (D : Dk) : Prop := ∀ k, (∀ p ∈ D.since, p.1 ≠ k) → D.kept[k]? = D.last[k]?
theorem newM_even (n : Nat) : (newM n).Even := fun k _ => rfl
theorem write_even (D : Dk) (h : D.Even) (hl : D.left = 0) (x : Int) (s : List Value) : (writeM D x s).1.Even := by
  unfold writeM
  split
  · exact h
  · unfold stepM
    rw [if_pos (show (putM D x.toNat s).left = 0 from hl)]
    intro k hk
    have hk' : ∀ p ∈ D.since ++ [(x.toNat, s)], p.1 ≠ k := hk
    show D.kept[k]? = (D.last.set x.toNat s)[k]?
    rw [List.getElem?_set_ne (hk' (x.toNat, s) (by simp))]
    exact h k fun p hp => hk' p (List.mem_append_left _ hp)
theorem lastTo_get (K : List (List Value)) (D : Dk) (hK : K.length = D.last.length) (k : Nat) (hk : k < D.last.length) : ∀ i, i ≤ D.since.length → (lastTo K D i)[k]? = if ∃ p ∈ D.since.take i, p.1 = k then K[k]? else D.last[k]? := by
  intro i
  induction i with
  | zero => intro _; rw [List.take_zero, if_neg (by simp)]; rfl
  | succ i ih =>
    intro hi
    have hlt : i < D.since.length := by omega
    rw [lastTo, List.getElem?_eq_getElem hlt]
    show ((lastTo K D i).set (D.since[i]).1 (K.getD (D.since[i]).1 []))[k]? = _
    rw [List.take_succ_eq_append_getElem hlt]
    by_cases he : (D.since[i]).1 = k
    · rw [if_pos ⟨D.since[i], List.mem_append_right _ (List.mem_singleton.2 rfl), he⟩, he, List.getElem?_set_self (by rw [lastTo_length]; exact hk), List.getD_eq_getElem?_getD, List.getElem?_eq_getElem (by omega)]
      rfl
    · rw [List.getElem?_set_ne he, ih (by omega)]
      by_cases h1 : ∃ p ∈ D.since.take i, p.1 = k
      · rw [if_pos h1, if_pos (by obtain ⟨p, hp, h2⟩ := h1; exact ⟨p, List.mem_append_left _ hp, h2⟩)]
      · rw [if_neg h1, if_neg (by
          rintro ⟨p, hp, h2⟩
          rcases List.mem_append.1 hp with h3 | h3
          · exact h1 ⟨p, h3, h2⟩
          · rw [List.mem_singleton.1 h3] at h2; exact he h2)]
theorem keptTo_get (D : Dk) (keeps : Int) (k : Nat) : ∀ i, (∀ p ∈ D.since.take i, p.1 ≠ k) → (keptTo D keeps i)[k]? = D.kept[k]? := by
  intro i
  induction i with
  | zero => intro _; rfl
  | succ i ih =>
    intro h
    rw [keptTo]
    by_cases hlt : i < D.since.length
    · rw [List.take_succ_eq_append_getElem hlt] at h
      rw [List.getElem?_eq_getElem hlt]
      have h1 := ih fun p hp => h p (List.mem_append_left _ hp)
      show (if bitOf keeps i = true then (keptTo D keeps i).set (D.since[i]).1 (D.since[i]).2 else keptTo D keeps i)[k]? = _
      split
      · rw [List.getElem?_set_ne (h _ (List.mem_append_right _ (List.mem_singleton.2 rfl))), h1]
      · exact h1
    · rw [List.getElem?_eq_none (l := D.since) (i := i) (by omega)]
      exact ih fun p hp => h p (by rw [List.take_of_length_le (by omega)] at hp ⊢; exact hp)
/-- Behind a settling what is kept is what was written last. -/
theorem settle_even (D : Dk) (hO : D.Ok) (h : D.Even) (keeps : Int) (k : Nat) (hk : k < D.last.length) : (settleM D keeps).kept[k]? = (settleM D keeps).last[k]? := by
  show (keptTo D keeps D.since.length)[k]? = (lastTo (keptTo D keeps D.since.length) D D.since.length)[k]?
  rw [lastTo_get _ D (by rw [keptTo_length]; exact hO.len) k hk D.since.length (Nat.le_refl _), List.take_length]
  by_cases h1 : ∃ p ∈ D.since, p.1 = k
  · rw [if_pos h1]
  · rw [if_neg h1]
    have h2 : ∀ p ∈ D.since, p.1 ≠ k := fun p hp e => h1 ⟨p, hp, e⟩
    rw [keptTo_get D keeps k D.since.length (by rw [List.take_length]; exact h2)]
    exact h k h2

/-- Each sector, as kept, as written last, and as written since, is one of those that it may be. -/
structure Dk.In (D : Dk) (M : Nat → List Value → Prop) : Prop where
  kept : ∀ k s, D.kept[k]? = some s → M k s
  last : ∀ k s, D.last[k]? = some s → M k s
  since : ∀ p ∈ D.since, M p.1 p.2
theorem Dk.In.mono {D : Dk} {M M' : Nat → List Value → Prop} (h : D.In M) (hm : ∀ k s, M k s → M' k s) : D.In M' :=
  ⟨fun k s e => hm _ _ (h.kept k s e), fun k s e => hm _ _ (h.last k s e), fun p hp => hm _ _ (h.since p hp)⟩
theorem put_in (D : Dk) (M : Nat → List Value → Prop) (h : D.In M) (i : Nat) (s : List Value) (hs : M i s) : (putM D i s).In M := by
  refine ⟨h.kept, fun k t e => ?_, fun p hp => ?_⟩
  · have e' : (D.last.set i s)[k]? = some t := e
    by_cases hik : i = k
    · subst hik
      by_cases hl : i < D.last.length
      · rw [List.getElem?_set_self hl] at e'; cases e'; exact hs
      · rw [List.getElem?_eq_none (by rw [List.length_set]; omega)] at e'; cases e'
    · rw [List.getElem?_set_ne hik] at e'; exact h.last k t e'
  · have hp' : p ∈ D.since ++ [(i, s)] := hp
    rcases List.mem_append.1 hp' with h1 | h1
    · exact h.since p h1
    · rw [List.mem_singleton.1 h1]; exact hs
theorem keptTo_in (D : Dk) (M : Nat → List Value → Prop) (h : D.In M) (keeps : Int) : ∀ i k s, (keptTo D keeps i)[k]? = some s → M k s := by
  intro i
  induction i with
  | zero => exact h.kept
  | succ i ih =>
    intro k s e
    rw [keptTo] at e
    by_cases hlt : i < D.since.length
    · rw [List.getElem?_eq_getElem hlt] at e
      have e : (if bitOf keeps i = true then (keptTo D keeps i).set (D.since[i]).1 (D.since[i]).2 else keptTo D keeps i)[k]? = some s := e
      split at e
      · by_cases hik : (D.since[i]).1 = k
        · have hm := h.since _ (List.getElem_mem hlt)
          rw [hik] at hm e
          by_cases hl : k < (keptTo D keeps i).length
          · rw [List.getElem?_set_self hl] at e; cases e; exact hm
          · rw [List.getElem?_eq_none (by rw [List.length_set]; omega)] at e; cases e
        · rw [List.getElem?_set_ne hik] at e; exact ih k s e
      · exact ih k s e
    · rw [List.getElem?_eq_none (l := D.since) (i := i) (by omega)] at e
      exact ih k s e
theorem crash_in (D : Dk) (hO : D.Ok) (M : Nat → List Value → Prop) (h : D.In M) (keeps : Int) : ∀ k s, (crashM D keeps).last[k]? = some s → M k s := by
  intro k s e
  have e : (lastTo (keptTo D keeps D.since.length) D D.since.length)[k]? = some s := e
  have hk : k < D.last.length := by
    rcases Nat.lt_or_ge k D.last.length with h1 | h1
    · exact h1
    · rw [List.getElem?_eq_none (by rw [lastTo_length]; exact h1)] at e; cases e
  rw [lastTo_get _ D (by rw [keptTo_length]; exact hO.len) k hk D.since.length (Nat.le_refl _)] at e
  split at e
  · exact keptTo_in D M h keeps _ k s e
  · exact h.last k s e
end Go.Proofs.Ythmcdmnjjofehaa
