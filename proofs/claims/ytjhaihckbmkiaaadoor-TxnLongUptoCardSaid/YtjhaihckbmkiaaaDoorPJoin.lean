/- 'Join', 'Right', 'Parent' of package path. -/
import Derived.Test.YtjhaihckbmkiaaaDoorPSplit
import Derived.Deep.RegionHeld3
namespace Go.Proofs.YtjhaihckbmkiaaaDoor
open Go.RowKit
set_option linter.unusedVariables false
set_option linter.unusedSimpArgs false

/-- A slice value that reads as these texts. -/
def Sts (w : World) (v : Value) (ls : List (List UInt8)) : Prop :=
  ∃ a c, v = .slice a ls.length c ∧ ls.length ≤ c ∧ c ≤ maxLen ∧ (0 < ls.length → ∃ b o, a = some ⟨b, o, none⟩ ∧ b < w.heap.size ∧ ∀ (j : Nat) (h : j < ls.length), w.cell? ⟨b, o + j, none⟩ = some (.string (toB ls[j])))
theorem Sts.later {w w' : World} {v : Value} {ls : List (List UInt8)} (h : Sts w v ls) (hb : Below w.heap.size w w') : Sts w' v ls := by
  obtain ⟨a, c, h1, h2, h3, h4⟩ := h
  refine ⟨a, c, h1, h2, h3, fun hn => ?_⟩
  obtain ⟨b, o, h5, h6, h7⟩ := h4 hn
  exact ⟨b, o, h5, Nat.lt_of_lt_of_le h6 hb.size, fun j hj => by rw [hb.cell (p := ⟨b, o + j, none⟩) h6]; exact h7 j hj⟩
theorem Own.sts {W0 : Base} {w : World} {v : Value} {ls : List (List UInt8)} {L : List Rw} (h : Own W0 w (rowSs v ls :: L)) : Sts w v ls := by
  by_cases hn : 0 < ls.length
  · obtain ⟨g, cap, h1, h2, h3⟩ := h.form hn
    obtain ⟨a, c, h4, h5, h6⟩ := h.sized
    rw [h1] at h4
    injection h4 with e1 e2 e3
    subst h1
    refine ⟨_, cap, rfl, by omega, by omega, fun _ => ⟨g, 0, rfl, by omega, fun j hj => ?_⟩⟩
    rw [Nat.zero_add]; exact h.str j hj
  · obtain ⟨a, c, h4, h5, h6⟩ := h.sized
    exact ⟨a, c, h4, h5, h6, fun h => absurd h hn⟩
theorem Sts.take {w : World} {a : Option Addr} {n c : Nat} {ls : List (List UInt8)} (h : Sts w (.slice a n c) ls) (k : Nat) (hk : k ≤ ls.length) : Sts w (.slice a k c) (ls.take k) := by
  obtain ⟨a', c', h1, h2, h3, h4⟩ := h
  injection h1 with e1 e2 e3
  subst e1 e3
  have hl : (ls.take k).length = k := by rw [List.length_take]; omega
  refine ⟨a, c, by rw [hl], by omega, h3, fun hn => ?_⟩
  obtain ⟨b, o, h5, h6, h7⟩ := h4 (by omega)
  refine ⟨b, o, h5, h6, fun j hj => ?_⟩
  rw [h7 j (by omega), List.getElem_take]

/-- The path of names. -/
def joinL (ls : List (List UInt8)) : List UInt8 := 47 :: Lib.join ls [47]
theorem join_len (ls : List (List UInt8)) (m : Nat) (h : ∀ l ∈ ls, l.length ≤ m) : (Lib.join ls [47]).length ≤ ls.length * (m + 1) := by
  cases ls with
  | nil => simp [Lib.join_nil]
  | cons x r =>
    rw [Lib.join_cons]
    have h1 := h x (List.mem_cons_self ..)
    have h2 : (Lib.joinTail [47] r).length ≤ r.length * (m + 1) := by
      have hr : ∀ l ∈ r, l.length ≤ m := fun l hl => h l (List.mem_cons_of_mem _ hl)
      clear h h1
      induction r with
      | nil => simp [Lib.joinTail]
      | cons y r ih =>
        have := ih (fun l hl => hr l (List.mem_cons_of_mem _ hl))
        have hy := hr y (List.mem_cons_self ..)
        simp only [Lib.joinTail, List.map_cons, List.flatten_cons, List.length_append, List.length_singleton] at this ⊢
        rw [List.length_cons, Nat.add_mul]; omega
    rw [List.length_append, List.length_cons, Nat.add_mul]; omega
theorem join_size (ls : List (List UInt8)) (m : Nat) (h : ∀ l ∈ ls, l.length ≤ m) (hm : m ≤ 1000) (hn : ls.length ≤ 1000) : (Lib.join ls [47]).length ≤ 1001000 := by
  have h1 := join_len ls m h
  have h2 : ls.length * (m + 1) ≤ 1000 * 1001 := Nat.mul_le_mul hn (by omega)
  omega
theorem names_bounds (l : List UInt8) : (namesL l).length ≤ 5 ∧ ∀ n ∈ namesL l, nameL n = true := by
  unfold namesL
  split
  · simp
  · rename_i h1
    split
    · rename_i h2
      unfold okP at h2
      rw [decide_eq_false h1] at h2
      simp only [Bool.false_or, Bool.and_eq_true, decide_eq_true_eq, List.all_eq_true] at h2
      exact ⟨h2.1.2, h2.2⟩
    · simp
theorem name_len {n : List UInt8} (h : nameL n = true) : 1 ≤ n.length ∧ n.length ≤ 12 := by
  unfold nameL at h
  simp only [Bool.and_eq_true, decide_eq_true_eq] at h
  exact ⟨h.1.1, h.1.2.1⟩
theorem right_any (s : ByteArray) (w : World) (hs : s.size ≤ maxLen) (hm : Mx w) : Calls Tryd.prog 26 #[.string s] w fun e w' => e = .returned (.bool (decide (namesL s.data.toList ≠ []))) ∧ Below w.heap.size w w' := by
  have hc := split_any s w hs hm
  generalize s.data.toList = l at *
  by_cases h0 : namesL l = []
  · rw [decide_eq_false (fun h => h h0)]
    have H0 := Lib.hid h0
    clear h0
    go_enter Tryd.func26, Tryd.ntmps26
    go_wp2_with fail
    refine hc.mono ?_
    rintro e w' ⟨v, rfl, hO⟩
    obtain ⟨a, c, rfl, _, _⟩ := hO.sized
    rw [H0.out]
    have hb := hO.below
    clear hO
    go_wp2
    go_ret
    exact ⟨rfl, hb⟩
  · rw [decide_eq_true h0]
    have H0 := Lib.hid (List.length_pos_iff.2 h0)
    clear h0
    go_enter Tryd.func26, Tryd.ntmps26
    go_wp2_with fail
    refine hc.mono ?_
    rintro e w' ⟨v, rfl, hO⟩
    obtain ⟨a, c, rfl, _, _⟩ := hO.sized
    have hb := hO.below
    have h1 := H0.out
    have h2 := (names_bounds l).1
    generalize (namesL l).length = n at *
    clear hO
    go_wp2
    go_ret
    exact ⟨rfl, hb⟩
end Go.Proofs.YtjhaihckbmkiaaaDoor
