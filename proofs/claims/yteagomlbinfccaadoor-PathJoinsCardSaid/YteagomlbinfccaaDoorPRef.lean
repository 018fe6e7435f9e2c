/- The reference of package path: 'Split', 'Join'; the law's 'same'; path's 'Within'. -/
import Derived.Test.YteagomlbinfccaaDoorPJoin
namespace Go.Proofs.YteagomlbinfccaaDoor
open Go.RowKit
set_option linter.unusedVariables false
set_option linter.unusedSimpArgs false

/-- Two lists of texts, held one against the other. -/
def sameL (a b : List (List UInt8)) : Bool := decide (a = b)
theorem sameL_len {a b : List (List UInt8)} (h : a.length ≠ b.length) : sameL a b = false := decide_eq_false fun e => h (by rw [e])
theorem sameL_at {a b : List (List UInt8)} (k : Nat) (ha : k < a.length) (hb : k < b.length) (h : a[k] ≠ b[k]) : sameL a b = false := decide_eq_false fun e => h (by subst e; rfl)
theorem sameL_all {a b : List (List UInt8)} (hl : a.length = b.length) (h : ∀ k (ha : k < a.length) (hb : k < b.length), a[k] = b[k]) : sameL a b = true := decide_eq_true (List.ext_getElem hl h)
theorem toB_ne {a b : List UInt8} (h : a ≠ b) : toB a ≠ toB b := fun e => h (toB_inj e)
set_option maxHeartbeats 1000000 in
theorem same_any (v1 v2 : Value) (ls ms : List (List UInt8)) (w : World) (h1 : Sts w v1 ls) (h2 : Sts w v2 ms) (hl : ls.length ≤ 1000000) (hm : ms.length ≤ 1000000) : Calls Tryd.prog 9 #[v1, v2] w fun e w' => e = .returned (.bool (sameL ls ms)) ∧ w = w' := by
  obtain ⟨a, c, rfl, _, _, h3⟩ := h1
  obtain ⟨a2, c2, rfl, _, _, h4⟩ := h2
  by_cases hlen : ls.length = ms.length
  · by_cases hz : 0 < ls.length
    · obtain ⟨b, o, rfl, hb, hc⟩ := h3 hz
      obtain ⟨b2, o2, rfl, hb2, hc2⟩ := h4 (by omega)
      have H1 := Lib.hid hc
      have H2 := Lib.hid hc2
      have HL := Lib.hid hlen
      rw [← hlen]
      clear h3 h4 hc hc2 hlen
      go_enter Tryd.func9, Tryd.ntmps9
      go_wp2
      go_loop [14] (fun i => ∃ k : Nat, k ≤ ls.length ∧ i = .int .i64 k ∧ Hid (∀ j (ha : j < ls.length) (hb : j < ms.length), j < k → ls[j] = ms[j])) (fun i => ls.length - (intOf i).toNat)
      case atStart => exact ⟨0, Nat.zero_le _, rfl, fun j _ _ h => absurd h (by omega)⟩
      case round =>
        obtain ⟨k, hk, rfl, HA⟩ := hrel
        by_cases hlt : k < ls.length
        · have c1 := H1.out k hlt
          have c2 := H2.out k (by rw [← HL.out]; exact hlt)
          by_cases he : ls[k] = ms[k]'(by rw [← HL.out]; exact hlt)
          · have HB := Lib.hid (show ∀ j (ha : j < ls.length) (hb : j < ms.length), j < k + 1 → ls[j] = ms[j] from fun j ha hb hj => by
              rcases Nat.lt_or_ge j k with h | h
              · exact HA.out j ha hb h
              · obtain rfl : j = k := by omega
                exact he)
            rw [← he] at c2
            clear he
            generalize ls[k] = l at *
            go_wp2
            go_round
            case rel => exact ⟨k + 1, by omega, by go_num, HB⟩
            case measure => simp [intOf]; omega
          · have HN := Lib.hid (sameL_at k hlt (by rw [← HL.out]; exact hlt) he)
            have he3 : (ls[k] == ms[k]'(by rw [← HL.out]; exact hlt)) = false := beq_eq_false_iff_ne.2 he
            clear he
            generalize ls[k] = l at *
            generalize (ms[k]'(by rw [← HL.out]; exact hlt)) = m at *
            go_wp2
            go_ret
            exact ⟨by rw [HN.out]; rfl, rfl⟩
        · have HN := Lib.hid (show sameL ls ms = true from sameL_all HL.out fun j ha hb => HA.out j ha hb (by omega))
          go_wp2
          go_ret
          exact ⟨by rw [HN.out]; rfl, rfl⟩
    · have e1 : ls = [] := List.length_eq_zero_iff.1 (by omega)
      have e2 : ms = [] := List.length_eq_zero_iff.1 (by omega)
      subst e1 e2
      go_enter Tryd.func9, Tryd.ntmps9
      have HN := Lib.hid (show sameL [] [] = true from rfl)
      go_wp2
      go_loop [14] (fun i => i = .int .i64 0) (fun i => 0)
      case atStart => rfl
      case round =>
        obtain rfl := hrel
        go_wp2
        go_ret
        exact ⟨by rw [HN.out]; rfl, rfl⟩
  · rw [sameL_len hlen]
    have hn : ((ls.length : Int) == (ms.length : Int)) = false := by rw [beq_eq_false_iff_ne]; omega
    clear h3 h4
    go_enter Tryd.func9, Tryd.ntmps9
    go_wp2
    go_ret
    exact ⟨rfl, rfl⟩

theorem Sts.below {w w' : World} {v : Value} {ls : List (List UInt8)} (h : Sts w v ls) (hb : Below w.heap.size w w') : Sts w' v ls := h.later hb
theorem below_drewN (w : World) (q : Nat) : Below w.heap.size w (w.drewN q) := ⟨rfl, rfl, rfl, Nat.le_refl _, fun _ _ => rfl⟩
/-- slices.Equal of texts. -/
theorem equal_any (v1 v2 : Value) (ls ms : List (List UInt8)) (w : World) (h1 : Sts w v1 ls) (h2 : Sts w v2 ms) : Calls Tryd.prog 21 #[v1, v2] w fun e w' => e = .returned (.bool (sameL ls ms)) ∧ ∃ q, w' = w.drewN q := by
  obtain ⟨a, c, rfl, _, hc, h3⟩ := h1
  obtain ⟨a2, c2, rfl, _, hc2, h4⟩ := h2
  have hmax : maxLen = 9223372036854775807 := by unfold maxLen; decide
  by_cases hlen : ls.length = ms.length
  · by_cases hz : 0 < ls.length
    · obtain ⟨b, o, rfl, hb, hc⟩ := h3 hz
      obtain ⟨b2, o2, rfl, hb2, hc2⟩ := h4 (by omega)
      have hx : ∀ (xs : List (List UInt8)) j (hj : j < (xs.map toB).length), (xs.map toB).getD j ByteArray.empty = toB (xs[j]'(by simpa using hj)) := by
        intro xs j hj
        rw [List.getD_eq_getElem?_getD, List.getElem?_eq_getElem hj]
        simp
      refine (Tryd.slices_Equal_string b o ls.length c b2 o2 ms.length c2 (ls.map toB) (ms.map toB) w (by simp) (by simp) (by omega) (by omega)
        (fun j hj => by rw [hx ls j hj]; exact hc j (by simpa using hj)) (fun j hj => by rw [hx ms j hj]; exact hc2 j (by simpa using hj))).mono ?_
      rintro e w' ⟨rfl, hq⟩
      refine ⟨?_, hq⟩
      have : decide ((ls.map toB).take ls.length = (ms.map toB).take ms.length) = sameL ls ms := by
        unfold sameL
        rw [List.take_of_length_le (by simp), List.take_of_length_le (by simp)]
        rw [Bool.eq_iff_iff, decide_eq_true_iff, decide_eq_true_iff]
        constructor
        · intro h
          have := congrArg (List.map fun s : ByteArray => s.data.toList) h
          simpa [List.map_map, Function.comp_def] using this
        · rintro rfl; rfl
      rw [this]
    · have e1 : ls = [] := List.length_eq_zero_iff.1 (by omega)
      have e2 : ms = [] := List.length_eq_zero_iff.1 (by omega)
      subst e1 e2
      refine (Tryd.slices_Equal_string_empty a a2 c 0 c2 w (by omega)).mono ?_
      rintro e w' ⟨rfl, rfl⟩
      exact ⟨rfl, 0, rfl⟩
  · rw [sameL_len hlen]
    refine (Tryd.slices_Equal_string_lens a a2 ls.length c ms.length c2 w hlen).mono ?_
    rintro e w' ⟨rfl, rfl⟩
    exact ⟨rfl, 0, rfl⟩

def withinL (l m : List UInt8) : Bool := okP l && okP m && decide ((namesL m).length < (namesL l).length) && sameL ((namesL l).take (namesL m).length) (namesL m)
theorem within_any (s t : ByteArray) (w : World) (hs : s.size ≤ maxLen) (ht : t.size ≤ maxLen) (hm : Mx w) : Calls Tryd.prog 16 #[.string s, .string t] w fun e w' => e = .returned (.bool (withinL s.data.toList t.data.toList)) ∧ Below w.heap.size w w' := by
  have hc1 := split_any s w hs hm
  have hc2 := fun w' hm => split_any t w' ht hm
  generalize s.data.toList = l at *
  generalize t.data.toList = m at *
  go_enter Tryd.func16, Tryd.ntmps16
  go_wp2_with fail
  refine hc1.mono ?_
  rintro e w1 ⟨v1, rfl, hO1⟩
  obtain ⟨a1, c1, rfl, hn1, hx1⟩ := hO1.sized
  have hb1 := hO1.below
  have hm1 := hm.later hb1
  have H1 := Lib.hid hO1.sts
  clear hO1
  go_wp2_with fail
  refine (hc2 w1 hm1).mono ?_
  rintro e w2 ⟨v2, rfl, hO2⟩
  obtain ⟨a2, c2, rfl, hn2, hx2⟩ := hO2.sized
  have hb2 := hO2.below
  have HB := Lib.hid (hb1.trans (hb2.mono hb1.size))
  have HS1 := Lib.hid (H1.out.later hb2)
  have HS2 := Lib.hid hO2.sts
  have HT := Lib.hid (fun k => HS1.out.take k)
  clear hO2 hb2 hm1 hc1 hc2 H1 hb1
  have hle := (names_bounds l).1
  have hle2 := (names_bounds m).1
  have HW : Hid (∀ b, withinL l m = b → b = withinL l m) := Lib.hid fun b h => h.symm
  by_cases k1 : okP l = true
  · by_cases k2 : okP m = true
    · by_cases k3 : (namesL m).length < (namesL l).length
      · have HW := Lib.hid (show withinL l m = sameL ((namesL l).take (namesL m).length) (namesL m) by unfold withinL; rw [k1, k2, decide_eq_true k3]; rfl)
        have HTk := Lib.hid (HT.out (namesL m).length (by omega))
        generalize (namesL l).take (namesL m).length = pre at *
        have HE := Lib.hid (equal_any (.slice a1 (namesL m).length c1) (.slice a2 (namesL m).length c2) pre (namesL m) w2 HTk.out HS2.out)
        have hq : ∀ q, Below w.heap.size w (w2.drewN q) := fun q => HB.out.trans ((below_drewN w2 q).mono HB.out.size)
        have HQ := Lib.hid hq
        clear hq HT HTk HS1 HS2
        generalize (namesL l).length = n1 at *
        generalize (namesL m).length = n2 at *
        generalize sameL pre (namesL m) = ans at *
        have x1 : (n2 : Int) ≤ (c1 : Int) := by omega
        have x2 : n2 ≤ c1 := by omega
        have x3 : (n2 : Int) < (n1 : Int) := by omega
        unfold maxLen at *
        go_wp2_with (go_at_call 21; refine HE.out.mono ?_; rintro e w' ⟨rfl, q, rfl⟩)
        go_ret
        exact ⟨by rw [HW.out]; rfl, HQ.out q⟩
      · have HN := Lib.hid (show withinL l m = false by unfold withinL; rw [decide_eq_false k3]; simp)
        have x3 : ¬ ((namesL m).length : Int) < ((namesL l).length : Int) := by omega
        clear HT HS1 HS2
        generalize (namesL l).length = n1 at *
        generalize (namesL m).length = n2 at *
        go_wp2_with fail
        go_ret
        exact ⟨by rw [HN.out]; rfl, HB.out⟩
    · have k2' : okP m = false := by simpa using k2
      have HN := Lib.hid (show withinL l m = false by unfold withinL; rw [k2']; simp)
      clear HT HS1 HS2 k2
      go_wp2_with fail
      go_ret
      exact ⟨by rw [HN.out]; rfl, HB.out⟩
  · have k1' : okP l = false := by simpa using k1
    have HN := Lib.hid (show withinL l m = false by unfold withinL; rw [k1']; simp)
    clear HT HS1 HS2 k1
    go_wp2_with fail
    go_ret
    exact ⟨by rw [HN.out]; rfl, HB.out⟩

/-- The reference's Join. -/
def refJoinL (ls : List (List UInt8)) : List UInt8 := (ls.map fun l => (47 : UInt8) :: l).flatten
theorem refJoin_eq (ls : List (List UInt8)) (h : ls ≠ []) : refJoinL ls = joinL ls := by
  cases ls with
  | nil => exact absurd rfl h
  | cons x r =>
    unfold refJoinL joinL
    rw [Lib.join_cons]
    simp [Lib.joinTail]
theorem refJoin_succ (ls : List (List UInt8)) (k : Nat) (h : k < ls.length) : refJoinL (ls.take (k + 1)) = refJoinL (ls.take k) ++ [47] ++ ls[k] := by
  unfold refJoinL
  rw [List.take_succ_eq_append_getElem h, List.map_append, List.flatten_append, List.map_cons, List.map_nil, List.flatten_cons, List.flatten_nil, List.append_nil, List.append_assoc]; rfl
theorem refJoin_len (ls : List (List UInt8)) (m : Nat) (h : ∀ l ∈ ls, l.length ≤ m) : (refJoinL ls).length ≤ ls.length * (m + 1) := by
  induction ls with
  | nil => simp [refJoinL]
  | cons y r ih =>
    have h1 := ih (fun l hl => h l (List.mem_cons_of_mem _ hl))
    have hy := h y (List.mem_cons_self ..)
    simp only [refJoinL, List.map_cons, List.flatten_cons, List.length_append, List.length_cons] at h1 ⊢
    rw [Nat.add_mul]; omega
theorem refJoin_pos (ls : List (List UInt8)) (h : ls ≠ []) : refJoinL ls ≠ [] := by
  cases ls with
  | nil => exact absurd rfl h
  | cons x r => simp [refJoinL]
set_option maxHeartbeats 1000000 in
theorem refjoin_any (v : Value) (ls : List (List UInt8)) (w : World) (h : Sts w v ls) (hl : ls.length ≤ 1000) (hb : ∀ l ∈ ls, l.length ≤ 1000) : Calls Tryd.prog 15 #[v] w fun e w' => e = .returned (.string (toB (joinL ls))) ∧ w = w' := by
  obtain ⟨a, c, rfl, _, _, h3⟩ := h
  by_cases hz : ls = []
  · subst hz
    go_enter Tryd.func15, Tryd.ntmps15
    go_wp2
    go_loop [3, 4] (fun o i => i = .int .i64 0 ∧ o = .string ⟨#[]⟩) (fun _ i => 0)
    case atStart => exact ⟨rfl, rfl⟩
    case round =>
      obtain ⟨rfl, rfl⟩ := hrel
      go_wp2
      go_ret
      exact ⟨rfl, rfl⟩
  · obtain ⟨b, o, rfl, hb1, hc⟩ := h3 (List.length_pos_iff.2 hz)
    have H1 := Lib.hid hc
    have HE := Lib.hid (refJoin_eq ls hz)
    have HP := Lib.hid (refJoin_pos ls hz)
    have HB := Lib.hid hb
    clear h3 hc hb hz
    go_enter Tryd.func15, Tryd.ntmps15
    go_wp2
    go_loop [3, 4] (fun o i => ∃ k : Nat, k ≤ ls.length ∧ i = .int .i64 k ∧ o = .string (toB (refJoinL (ls.take k)))) (fun _ i => ls.length - (intOf i).toNat)
    case atStart => exact ⟨0, Nat.zero_le _, rfl, rfl⟩
    case round =>
      obtain ⟨k, hk, rfl, rfl⟩ := hrel
      by_cases hlt : k < ls.length
      · have c1 := H1.out k hlt
        have HS := Lib.hid (refJoin_succ ls k hlt)
        have hlk : ls[k].length ≤ 1000 := HB.out _ (List.getElem_mem _)
        have hX : (refJoinL (ls.take k)).length ≤ 1001000 := by
          have h1 := refJoin_len (ls.take k) 1000 (fun l hl => HB.out l (List.mem_of_mem_take hl))
          have h2 : (ls.take k).length * (1000 + 1) ≤ 1000 * 1001 := Nat.mul_le_mul (by rw [List.length_take]; omega) (by omega)
          omega
        generalize ls[k] = l at *
        generalize refJoinL (ls.take k) = X at *
        have b1 : ¬ 9223372036854775807 < X.length + 1 := by omega
        have b2 : ¬ 9223372036854775807 < X.length + 1 + l.length := by omega
        have HV := Lib.hid (show toB X ++ ⟨#[47]⟩ ++ toB l = toB (X ++ [47] ++ l) by apply ByteArray.ext; simp)
        go_wp2
        go_round
        case rel => exact ⟨k + 1, by omega, by go_num, by rw [HS.out, HV.out]⟩
        case measure => simp [intOf]; omega
      · have HT := Lib.hid (show refJoinL (ls.take k) = joinL ls by rw [List.take_of_length_le (by omega), HE.out])
        have HZ := Lib.hid (show joinL ls ≠ [] by rw [← HE.out]; exact HP.out)
        rw [HT.out]
        obtain ⟨Y, hY⟩ : ∃ Y, joinL ls = Y := ⟨_, rfl⟩
        have z1 := HZ.out
        rw [hY] at z1 ⊢
        have z2 : (Y == []) = false := beq_eq_false_iff_ne.2 z1
        have HY := Lib.hid hY
        clear hY
        go_wp2
        go_ret
        exact ⟨by rw [HY.out]; rfl, rfl⟩

/-- How far the reference's Split has come: 'done' are the pieces so far; a piece runs from 'f' to k. -/
def Cut (l : List UInt8) (done : List (List UInt8)) (f k : Nat) : Prop :=
  (1 ≤ f ∧ f ≤ k ∧ k ≤ l.length ∧ partsL (l.drop 1) = done ++ glue ((l.drop f).take (k - f)) (partsL (l.drop k))) ∨ (k = l.length + 1 ∧ partsL (l.drop 1) = done)
theorem Cut.start (l : List UInt8) (h : 1 ≤ l.length) : Cut l [] 1 1 := by
  refine .inl ⟨by omega, by omega, h, ?_⟩
  rw [Nat.sub_self, List.take_zero, glue_nil (partsL_ne _)]; rfl
theorem Cut.slash {l : List UInt8} {done : List (List UInt8)} {f k : Nat} (h : Cut l done f k) (hk : k < l.length) (hs : l[k] = 47) : Cut l (done ++ [(l.drop f).take (k - f)]) (k + 1) (k + 1) := by
  rcases h with ⟨h1, h2, h3, h4⟩ | ⟨h1, _⟩
  · refine .inl ⟨by omega, by omega, hk, ?_⟩
    rw [h4, Nat.sub_self, List.take_zero, glue_nil (partsL_ne _), List.drop_eq_getElem_cons hk, hs, partsL, if_pos rfl]
    simp [glue]
  · omega
theorem Cut.on {l : List UInt8} {done : List (List UInt8)} {f k : Nat} (h : Cut l done f k) (hk : k < l.length) (hs : l[k] ≠ 47) : Cut l done f (k + 1) := by
  rcases h with ⟨h1, h2, h3, h4⟩ | ⟨h1, _⟩
  · refine .inl ⟨h1, by omega, hk, ?_⟩
    have e : (l.drop f).take (k + 1 - f) = (l.drop f).take (k - f) ++ [l[k]] := by
      rw [show k + 1 - f = (k - f) + 1 by omega, List.take_succ_eq_append_getElem (by rw [List.length_drop]; omega), List.getElem_drop]
      congr 2; congr 1; omega
    rw [h4, e, List.drop_eq_getElem_cons hk, partsL, if_neg hs, glue_glue]
  · omega
theorem Cut.stop {l : List UInt8} {done : List (List UInt8)} {f k : Nat} (h : Cut l done f k) (hk : k = l.length) : Cut l (done ++ [(l.drop f).take (k - f)]) (k + 1) (k + 1) := by
  rcases h with ⟨h1, h2, h3, h4⟩ | ⟨h1, _⟩
  · refine .inr ⟨by omega, ?_⟩
    rw [h4, hk, List.drop_length, partsL]
    simp [glue]
  · omega
theorem Cut.few {l : List UInt8} {done : List (List UInt8)} {f k : Nat} (h : Cut l done f k) (hl : l.length ≤ 40) : done.length ≤ 41 := by
  have h0 := (partsL_length (l.drop 1)).2
  have h5 : (l.drop 1).length ≤ 40 := by rw [List.length_drop]; omega
  rcases h with ⟨_, _, _, h4⟩ | ⟨_, h4⟩
  · rw [h4, List.length_append] at h0; omega
  · rw [h4] at h0; omega
theorem Cut.ended {l : List UInt8} {done : List (List UInt8)} {f k : Nat} (h : Cut l done f k) (hk : ¬ k ≤ l.length) : partsL (l.drop 1) = done := by
  rcases h with ⟨_, _, h3, _⟩ | ⟨_, h4⟩
  · exact absurd h3 hk
  · exact h4
end Go.Proofs.YteagomlbinfccaaDoor
