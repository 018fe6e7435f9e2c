/- The reference of package path: 'Split', 'Join'; the law's 'same'; path's 'Within'. -/
import Derived.Test.YtihnjhigemhknaaGreatDoorPJoin
namespace Go.Proofs.YtihnjhigemhknaaGreatDoor
open Go.RowKit
set_option linter.unusedVariables false
set_option linter.unusedSimpArgs false

/-- Two lists of texts, held one against the other. -/
def sameL (a b : List (List UInt8)) : Bool := decide (a = b)
theorem sameL_len {a b : List (List UInt8)} (h : a.length ≠ b.length) : sameL a b = false := decide_eq_false fun e => h (by rw [e])
theorem sameL_at {a b : List (List UInt8)} (k : Nat) (ha : k < a.length) (hb : k < b.length) (h : a[k] ≠ b[k]) : sameL a b = false := decide_eq_false fun e => h (by subst e; rfl)
theorem sameL_all {a b : List (List UInt8)} (hl : a.length = b.length) (h : ∀ k (ha : k < a.length) (hb : k < b.length), a[k] = b[k]) : sameL a b = true := decide_eq_true (List.ext_getElem hl h)
theorem toB_ne {a b : List UInt8} (h : a ≠ b) : toB a ≠ toB b := fun e => h (toB_inj e)
theorem Sts.below {w w' : World} {v : Value} {ls : List (List UInt8)} (h : Sts w v ls) (hb : Below w.heap.size w w') : Sts w' v ls := h.later hb
theorem below_drewN (w : World) (q : Nat) : Below w.heap.size w (w.drewN q) := ⟨rfl, rfl, rfl, Nat.le_refl _, fun _ _ => rfl⟩
/-- slices.Equal of texts. -/
theorem equal_any (v1 v2 : Value) (ls ms : List (List UInt8)) (w : World) (h1 : Sts w v1 ls) (h2 : Sts w v2 ms) : Calls Tryz.prog 71 #[v1, v2] w fun e w' => e = .returned (.bool (sameL ls ms)) ∧ ∃ q, w' = w.drewN q := by
  obtain ⟨a, c, rfl, _, hc, h3⟩ := h1
  obtain ⟨a2, c2, rfl, _, hc2, h4⟩ := h2
  have hmax : maxLen = 9223372036854775807 := by unfold maxLen; decide
  by_cases hlen : ls.length = ms.length
  · by_cases hz : 0 < ls.length
    · obtain ⟨b, o, rfl, hb, hc⟩ := h3 hz
      obtain ⟨b2, o2, rfl, hb2, hc2⟩ := h4 (by omega)
      have hx : ∀ (xs : List (List UInt8)) j (hj : j < (xs.map toB).length), (xs.map toB).getD j ByteArray.empty = toB (xs[j]'(by simpa using hj)) := by
        intro xs j hj
        rw [List.getD_eq_getElem?_getD, List.getElem?_eq_getElem hj]
        simp
      refine (Tryz.slices_Equal_string b o ls.length c b2 o2 ms.length c2 (ls.map toB) (ms.map toB) w (by simp) (by simp) (by omega) (by omega)
        (fun j hj => by rw [hx ls j hj]; exact hc j (by simpa using hj)) (fun j hj => by rw [hx ms j hj]; exact hc2 j (by simpa using hj))).mono ?_
      rintro e w' ⟨rfl, hq⟩
      refine ⟨?_, hq⟩
      have : decide ((ls.map toB).take ls.length = (ms.map toB).take ms.length) = sameL ls ms := by
        unfold sameL
        rw [List.take_of_length_le (by simp), List.take_of_length_le (by simp)]
        rw [Bool.eq_iff_iff, decide_eq_true_iff, decide_eq_true_iff]
        constructor
        · intro h
          have := congrArg (List.map fun s : ByteArray => s.data.toList) h
          simpa [List.map_map, Function.comp_def] using this
        · rintro rfl; rfl
      rw [this]
    · have e1 : ls = [] := List.length_eq_zero_iff.1 (by omega)
      have e2 : ms = [] := List.length_eq_zero_iff.1 (by omega)
      subst e1 e2
      refine (Tryz.slices_Equal_string_empty a a2 c 0 c2 w (by omega)).mono ?_
      rintro e w' ⟨rfl, rfl⟩
      exact ⟨rfl, 0, rfl⟩
  · rw [sameL_len hlen]
    refine (Tryz.slices_Equal_string_lens a a2 ls.length c ms.length c2 w hlen).mono ?_
    rintro e w' ⟨rfl, rfl⟩
    exact ⟨rfl, 0, rfl⟩

def withinL (l m : List UInt8) : Bool := okP l && okP m && decide ((namesL m).length < (namesL l).length) && sameL ((namesL l).take (namesL m).length) (namesL m)
theorem within_any (s t : ByteArray) (w : World) (hs : s.size ≤ maxLen) (ht : t.size ≤ maxLen) (hm : Mx w) : Calls Tryz.prog 50 #[.string s, .string t] w fun e w' => e = .returned (.bool (withinL s.data.toList t.data.toList)) ∧ Below w.heap.size w w' := by
  have hc1 := split_any s w hs hm
  have hc2 := fun w' hm => split_any t w' ht hm
  generalize s.data.toList = l at *
  generalize t.data.toList = m at *
  go_enter Tryz.func50, Tryz.ntmps50
  go_wp2_with fail
  refine hc1.mono ?_
  rintro e w1 ⟨v1, rfl, hO1⟩
  obtain ⟨a1, c1, rfl, hn1, hx1⟩ := hO1.sized
  have hb1 := hO1.below
  have hm1 := hm.later hb1
  have H1 := Lib.hid hO1.sts
  clear hO1
  go_wp2_with fail
  refine (hc2 w1 hm1).mono ?_
  rintro e w2 ⟨v2, rfl, hO2⟩
  obtain ⟨a2, c2, rfl, hn2, hx2⟩ := hO2.sized
  have hb2 := hO2.below
  have HB := Lib.hid (hb1.trans (hb2.mono hb1.size))
  have HS1 := Lib.hid (H1.out.later hb2)
  have HS2 := Lib.hid hO2.sts
  have HT := Lib.hid (fun k => HS1.out.take k)
  clear hO2 hb2 hm1 hc1 hc2 H1 hb1
  have hle := (names_bounds l).1
  have hle2 := (names_bounds m).1
  have HW : Hid (∀ b, withinL l m = b → b = withinL l m) := Lib.hid fun b h => h.symm
  by_cases k1 : okP l = true
  · by_cases k2 : okP m = true
    · by_cases k3 : (namesL m).length < (namesL l).length
      · have HW := Lib.hid (show withinL l m = sameL ((namesL l).take (namesL m).length) (namesL m) by unfold withinL; rw [k1, k2, decide_eq_true k3]; rfl)
        have HTk := Lib.hid (HT.out (namesL m).length (by omega))
        generalize (namesL l).take (namesL m).length = pre at *
        have HE := Lib.hid (equal_any (.slice a1 (namesL m).length c1) (.slice a2 (namesL m).length c2) pre (namesL m) w2 HTk.out HS2.out)
        have hq : ∀ q, Below w.heap.size w (w2.drewN q) := fun q => HB.out.trans ((below_drewN w2 q).mono HB.out.size)
        have HQ := Lib.hid hq
        clear hq HT HTk HS1 HS2
        generalize (namesL l).length = n1 at *
        generalize (namesL m).length = n2 at *
        generalize sameL pre (namesL m) = ans at *
        have x1 : (n2 : Int) ≤ (c1 : Int) := by omega
        have x2 : n2 ≤ c1 := by omega
        have x3 : (n2 : Int) < (n1 : Int) := by omega
        unfold maxLen at *
        go_wp2_with (go_at_call 71; refine HE.out.mono ?_; rintro e w' ⟨rfl, q, rfl⟩)
        go_ret
        exact ⟨by rw [HW.out]; rfl, HQ.out q⟩
      · have HN := Lib.hid (show withinL l m = false by unfold withinL; rw [decide_eq_false k3]; simp)
        have x3 : ¬ ((namesL m).length : Int) < ((namesL l).length : Int) := by omega
        clear HT HS1 HS2
        generalize (namesL l).length = n1 at *
        generalize (namesL m).length = n2 at *
        go_wp2_with fail
        go_ret
        exact ⟨by rw [HN.out]; rfl, HB.out⟩
    · have k2' : okP m = false := by simpa using k2
      have HN := Lib.hid (show withinL l m = false by unfold withinL; rw [k2']; simp)
      clear HT HS1 HS2 k2
      go_wp2_with fail
      go_ret
      exact ⟨by rw [HN.out]; rfl, HB.out⟩
  · have k1' : okP l = false := by simpa using k1
    have HN := Lib.hid (show withinL l m = false by unfold withinL; rw [k1']; simp)
    clear HT HS1 HS2 k1
    go_wp2_with fail
    go_ret
    exact ⟨by rw [HN.out]; rfl, HB.out⟩

/-- The reference's Join. -/
def refJoinL (ls : List (List UInt8)) : List UInt8 := (ls.map fun l => (47 : UInt8) :: l).flatten
theorem refJoin_eq (ls : List (List UInt8)) (h : ls ≠ []) : refJoinL ls = joinL ls := by
  cases ls with
  | nil => exact absurd rfl h
  | cons x r =>
    unfold refJoinL joinL
    rw [Lib.join_cons]
    simp [Lib.joinTail]
theorem refJoin_succ (ls : List (List UInt8)) (k : Nat) (h : k < ls.length) : refJoinL (ls.take (k + 1)) = refJoinL (ls.take k) ++ [47] ++ ls[k] := by
  unfold refJoinL
  rw [List.take_succ_eq_append_getElem h, List.map_append, List.flatten_append, List.map_cons, List.map_nil, List.flatten_cons, List.flatten_nil, List.append_nil, List.append_assoc]; rfl
theorem refJoin_len (ls : List (List UInt8)) (m : Nat) (h : ∀ l ∈ ls, l.length ≤ m) : (refJoinL ls).length ≤ ls.length * (m + 1) := by
  induction ls with
  | nil => simp [refJoinL]
  | cons y r ih =>
    have h1 := ih (fun l hl => h l (List.mem_cons_of_mem _ hl))
    have hy := h y (List.mem_cons_self ..)
    simp only [refJoinL, List.map_cons, List.flatten_cons, List.length_append, List.length_cons] at h1 ⊢
    rw [Nat.add_mul]; omega
theorem refJoin_pos (ls : List (List UInt8)) (h : ls ≠ []) : refJoinL ls ≠ [] := by
  cases ls with
  | nil => exact absurd rfl h
  | cons x r => simp [refJoinL]
/-- How far the reference's Split has come: 'done' are the pieces so far; a piece runs from 'f' to k. -/
def Cut (l : List UInt8) (done : List (List UInt8)) (f k : Nat) : Prop :=
  (1 ≤ f ∧ f ≤ k ∧ k ≤ l.length ∧ partsL (l.drop 1) = done ++ glue ((l.drop f).take (k - f)) (partsL (l.drop k))) ∨ (k = l.length + 1 ∧ partsL (l.drop 1) = done)
theorem Cut.start (l : List UInt8) (h : 1 ≤ l.length) : Cut l [] 1 1 := by
  refine .inl ⟨by omega, by omega, h, ?_⟩
  rw [Nat.sub_self, List.take_zero, glue_nil (partsL_ne _)]; rfl
theorem Cut.slash {l : List UInt8} {done : List (List UInt8)} {f k : Nat} (h : Cut l done f k) (hk : k < l.length) (hs : l[k] = 47) : Cut l (done ++ [(l.drop f).take (k - f)]) (k + 1) (k + 1) := by
  rcases h with ⟨h1, h2, h3, h4⟩ | ⟨h1, _⟩
  · refine .inl ⟨by omega, by omega, hk, ?_⟩
    rw [h4, Nat.sub_self, List.take_zero, glue_nil (partsL_ne _), List.drop_eq_getElem_cons hk, hs, partsL, if_pos rfl]
    simp [glue]
  · omega
theorem Cut.on {l : List UInt8} {done : List (List UInt8)} {f k : Nat} (h : Cut l done f k) (hk : k < l.length) (hs : l[k] ≠ 47) : Cut l done f (k + 1) := by
  rcases h with ⟨h1, h2, h3, h4⟩ | ⟨h1, _⟩
  · refine .inl ⟨h1, by omega, hk, ?_⟩
    have e : (l.drop f).take (k + 1 - f) = (l.drop f).take (k - f) ++ [l[k]] := by
      rw [show k + 1 - f = (k - f) + 1 by omega, List.take_succ_eq_append_getElem (by rw [List.length_drop]; omega), List.getElem_drop]
      congr 2; congr 1; omega
    rw [h4, e, List.drop_eq_getElem_cons hk, partsL, if_neg hs, glue_glue]
  · omega
theorem Cut.stop {l : List UInt8} {done : List (List UInt8)} {f k : Nat} (h : Cut l done f k) (hk : k = l.length) : Cut l (done ++ [(l.drop f).take (k - f)]) (k + 1) (k + 1) := by
  rcases h with ⟨h1, h2, h3, h4⟩ | ⟨h1, _⟩
  · refine .inr ⟨by omega, ?_⟩
    rw [h4, hk, List.drop_length, partsL]
    simp [glue]
  · omega
theorem Cut.few {l : List UInt8} {done : List (List UInt8)} {f k : Nat} (h : Cut l done f k) (hl : l.length ≤ 40) : done.length ≤ 41 := by
  have h0 := (partsL_length (l.drop 1)).2
  have h5 : (l.drop 1).length ≤ 40 := by rw [List.length_drop]; omega
  rcases h with ⟨_, _, _, h4⟩ | ⟨_, h4⟩
  · rw [h4, List.length_append] at h0; omega
  · rw [h4] at h0; omega
theorem Cut.ended {l : List UInt8} {done : List (List UInt8)} {f k : Nat} (h : Cut l done f k) (hk : ¬ k ≤ l.length) : partsL (l.drop 1) = done := by
  rcases h with ⟨_, _, h3, _⟩ | ⟨_, h4⟩
  · exact absurd h3 hk
  · exact h4
end Go.Proofs.YtihnjhigemhknaaGreatDoor
