/- The walk of PathJoins. -/
import Derived.Test.YteagomlbinfccaaDoorPSplits
namespace Go.Proofs.YteagomlbinfccaaDoor
open Go.RowKit
set_option linter.unusedVariables false
set_option linter.unusedSimpArgs false

theorem parts_free (l : List UInt8) (h : (47 : UInt8) ∉ l) : partsL l = [l] := by
  induction l with
  | nil => rfl
  | cons c l ih =>
    have h1 : c ≠ 47 := fun e => h (by rw [e]; exact List.mem_cons_self ..)
    unfold partsL
    rw [if_neg h1, ih fun e => h (List.mem_cons_of_mem _ e)]; rfl
theorem parts_app (x : List UInt8) (r : List UInt8) (h : (47 : UInt8) ∉ x) : partsL (x ++ 47 :: r) = x :: partsL r := by
  induction x with
  | nil => show partsL (47 :: r) = _; rw [partsL, if_pos rfl]
  | cons c l ih =>
    have h1 : c ≠ 47 := fun e => h (by rw [e]; exact List.mem_cons_self ..)
    show partsL (c :: (l ++ 47 :: r)) = _
    rw [partsL, if_neg h1, ih fun e => h (List.mem_cons_of_mem _ e)]; rfl
theorem parts_join (ls : List (List UInt8)) (hne : ls ≠ []) (h : ∀ l ∈ ls, (47 : UInt8) ∉ l) : partsL (Lib.join ls [47]) = ls := by
  induction ls with
  | nil => exact absurd rfl hne
  | cons x r ih =>
    rw [Lib.join_cons]
    have hx := h x (List.mem_cons_self ..)
    cases r with
    | nil => simp only [Lib.joinTail, List.map_nil, List.flatten_nil, List.append_nil]; exact parts_free x hx
    | cons y r =>
      have e : Lib.joinTail [47] (y :: r) = 47 :: Lib.join (y :: r) [47] := by
        rw [Lib.join_cons]; simp [Lib.joinTail]
      rw [e, parts_app x _ hx, ih (by simp) fun l hl => h l (List.mem_cons_of_mem _ hl)]
/-- How long the path of names is. -/
def sumL (ls : List (List UInt8)) : Nat := (ls.map fun l => 1 + l.length).sum
theorem sumL_take (ls : List (List UInt8)) (k : Nat) (h : k < ls.length) : sumL (ls.take (k + 1)) = sumL (ls.take k) + (1 + ls[k].length) := by
  unfold sumL
  rw [List.take_succ_eq_append_getElem h, List.map_append, List.sum_append, List.map_cons, List.map_nil, List.sum_cons, List.sum_nil]; rfl
theorem sumL_join (ls : List (List UInt8)) (hne : ls ≠ []) : (joinL ls).length = sumL ls := by
  rw [← refJoin_eq ls hne]
  unfold refJoinL sumL
  clear hne
  induction ls with
  | nil => rfl
  | cons x r ih => simp only [List.map_cons, List.flatten_cons, List.length_append, List.length_cons, List.sum_cons, ih]; omega
theorem sumL_le (ls : List (List UInt8)) (m : Nat) (h : ∀ l ∈ ls, l.length ≤ m) : sumL ls ≤ ls.length * (m + 1) := by
  unfold sumL
  induction ls with
  | nil => simp
  | cons x r ih =>
    have h1 := h x (List.mem_cons_self ..)
    have h2 := ih fun l hl => h l (List.mem_cons_of_mem _ hl)
    rw [List.map_cons, List.sum_cons, List.length_cons, Nat.add_mul]; omega
/-- May so many names stand in a path? -/
def rightL (ls : List (List UInt8)) : Bool := decide (0 < ls.length ∧ ls.length ≤ 5) && ls.all nameL
theorem okP_join (ls : List (List UInt8)) (hne : ls ≠ []) (h47 : joinL ls ≠ [47]) (h : ∀ l ∈ ls, (47 : UInt8) ∉ l) : okP (joinL ls) = (rightL ls && decide (sumL ls ≤ 40)) ∧ (okP (joinL ls) = true → namesL (joinL ls) = ls) := by
  have e : (joinL ls).tail = Lib.join ls [47] := rfl
  have hp : partsL (joinL ls).tail = ls := by rw [e]; exact parts_join ls hne h
  have hpos : 0 < ls.length := List.length_pos_iff.2 hne
  refine ⟨?_, fun ho => ?_⟩
  · unfold okP rightL
    rw [decide_eq_false h47, hp, sumL_join ls hne]
    have hh : (joinL ls).head? = some 47 := rfl
    rw [decide_eq_true hh]
    by_cases h5 : ls.length ≤ 5
    · rw [decide_eq_true h5, decide_eq_true (show 0 < ls.length ∧ ls.length ≤ 5 from ⟨hpos, h5⟩)]
      simp [Bool.and_comm]
    · rw [decide_eq_false h5, decide_eq_false (show ¬ (0 < ls.length ∧ ls.length ≤ 5) from fun h => h5 h.2)]
      simp
  · unfold namesL; rw [if_neg h47, ho, hp]; rfl
theorem join_root (ls : List (List UInt8)) (h : joinL ls = [47]) : ls.length ≤ 1 := by
  unfold joinL at h
  have h1 : Lib.join ls [47] = [] := by injection h
  cases ls with
  | nil => simp
  | cons x r =>
    cases r with
    | nil => simp
    | cons y r =>
      rw [Lib.join_cons] at h1
      simp [Lib.joinTail] at h1
/-- What the law's loop knows behind k names. -/
def rtL (ls : List (List UInt8)) (k : Nat) : Bool := decide (ls.length ≤ 5) && (ls.take k).all nameL
theorem rtL_succ (ls : List (List UInt8)) (k : Nat) (h : k < ls.length) : rtL ls (k + 1) = (rtL ls k && nameL ls[k]) := by
  unfold rtL; rw [all_take_succ nameL ls k h, Bool.and_assoc]
theorem rtL_zero (ls : List (List UInt8)) : decide ((ls.length : Int) ≤ 5) = rtL ls 0 := by
  unfold rtL
  rw [Bool.eq_iff_iff]; simp
  exact Int.ofNat_le (m := ls.length) (n := 5)
theorem rtL_all (ls : List (List UInt8)) (k : Nat) (hk : ¬ k < ls.length) (h : 0 < ls.length) : rtL ls k = rightL ls := by
  unfold rtL rightL
  rw [List.take_of_length_le (by omega)]
  by_cases h5 : ls.length ≤ 5
  · rw [decide_eq_true h5, decide_eq_true (show 0 < ls.length ∧ ls.length ≤ 5 from ⟨h, h5⟩)]
  · rw [decide_eq_false h5, decide_eq_false (show ¬ (0 < ls.length ∧ ls.length ≤ 5) from fun h => h5 h.2)]
set_option maxRecDepth 100000 in
set_option maxHeartbeats 4000000 in
theorem joins_law (v : Value) (ls : List (List UInt8)) (w : World) (hv : Sts w v ls) (hm : Mx w) :
    Calls Tryd.prog 5 #[v] w fun e w' => e = .returned (.bool true) ∧ Below w.heap.size w w' := by
  have HV := Lib.hid hv
  obtain ⟨a, c, rfl, hc1, hc2, h3⟩ := hv
  by_cases h8 : ls.length ≤ 8
  · by_cases h0 : 0 < ls.length
    · obtain ⟨b, o, rfl, hb, hcl⟩ := h3 h0
      have HC := Lib.hid hcl
      clear h3 hcl
      unfold maxLen at *
      go_enter Tryd.func5, Tryd.ntmps5
      go_wp2_with fail
      refine (alive_any w hm).mono ?_
      rintro e w1 ⟨rfl, hb1⟩
      go_wp2_with fail
      go_loopw [3, 4, 28] (fun r n i wr => ∃ k : Nat, k ≤ ls.length ∧ i = .int .i64 k ∧ r = .bool (rtL ls k) ∧ n = .int .i64 (sumL (ls.take k) : Nat) ∧ Below w.heap.size w wr ∧ Hid (∀ l ∈ ls.take k, l.length ≤ 20)) (fun _ _ i _ => ls.length - (intOf i).toNat)
      case atStart => exact ⟨0, Nat.zero_le _, rfl, by rw [← rtL_zero], rfl, hb1, fun l hl => by simp at hl⟩
      case round =>
        obtain ⟨k, hk, rfl, rfl, rfl, hbw, HA⟩ := hrel
        have hsum : sumL (ls.take k) ≤ 168 := by
          have h1 := sumL_le (ls.take k) 20 HA.out
          have h2 : (ls.take k).length * 21 ≤ 8 * 21 := Nat.mul_le_mul (by rw [List.length_take]; omega) (by omega)
          omega
        by_cases hlt : k < ls.length
        · have hc := HC.out k hlt
          have hc : wr.cell? ⟨b, o + k, none⟩ = some (.string (toB ls[k])) := by rw [hbw.cell (p := ⟨b, o + k, none⟩) hb]; exact hc
          have HS := Lib.hid (sumL_take ls k hlt)
          have HRt := Lib.hid (rtL_succ ls k hlt)
          have HTk := Lib.hid (show ls.take (k + 1) = ls.take k ++ [ls[k]] from List.take_succ_eq_append_getElem hlt)
          have HN := Lib.hid (name_list ls[k])
          generalize ls[k] = l at *
          by_cases hl : l.length ≤ 20
          · have HA2 := Lib.hid (show ∀ x ∈ ls.take (k + 1), x.length ≤ 20 from fun x hx => by
              rw [HTk.out] at hx
              rcases List.mem_append.1 hx with h | h
              · exact HA.out x h
              · rw [List.mem_singleton.1 h]; exact hl)
            generalize hX : sumL (ls.take k) = X at *
            clear hX
            cases hr : rtL ls k with
            | true =>
              rw [hr] at HRt
              have HNk := Lib.hid (HN.out wr (by omega))
              clear HN hr
              go_wp2_with fail
              refine HNk.out.mono ?_
              rintro e w2 ⟨rfl, hb2⟩
              have hb2 := hbw.trans (hb2.mono hbw.size)
              go_wp2_with fail
              go_roundw
              case rel => exact ⟨k + 1, by omega, by go_num, by rw [HRt.out]; rfl, by rw [HS.out]; go_num, hb2, HA2⟩
              case measure => simp [intOf]; omega
            | false =>
              rw [hr] at HRt
              clear hr
              go_wp2_with fail
              go_roundw
              case rel => exact ⟨k + 1, by omega, by go_num, by rw [HRt.out]; rfl, by rw [HS.out]; go_num, hbw, HA2⟩
              case measure => simp [intOf]; omega
          · have hl' : ¬ (l.length : Int) ≤ 20 := by omega
            clear HN
            go_wp2_with fail
            go_ret
            exact ⟨rfl, hbw⟩
        · have HRt := Lib.hid (rtL_all ls k hlt h0)
          have hTk : ls.take k = ls := List.take_of_length_le (by omega)
          rw [hTk] at HA hsum ⊢
          rw [HRt.out]
          have hne : ls ≠ [] := List.length_pos_iff.1 h0
          have HJ := Lib.hid (fun w' hb' => join_any (.slice (some ⟨b, o, none⟩) ls.length c) ls w' ((show Sts w _ ls from ⟨_, c, rfl, hc1, by unfold maxLen; omega, fun _ => ⟨b, o, rfl, hb, HC.out⟩⟩).later hb') (join_size ls 20 HA.out (by omega) (by omega)) (by omega))
          have hjl : (joinL ls).length ≤ 168 := by rw [sumL_join ls hne]; exact hsum
          have hm2 := hm.later hbw
          have HSS := Lib.hid (show ∀ w', Below w.heap.size w w' → Sts w' (.slice (some ⟨b, o, none⟩) ls.length c) ls from fun w' hb' => (show Sts w _ ls from ⟨_, c, rfl, hc1, by unfold maxLen; omega, fun _ => ⟨b, o, rfl, hb, HC.out⟩⟩).later hb')
          clear hTk HRt
          go_wp2_with fail
          refine (HJ.out wr hbw).mono ?_
          rintro e w3 ⟨rfl, hb3⟩
          have hb3 := hbw.trans (hb3.mono hbw.size)
          have hm3 := hm.later hb3
          clear HJ
          go_wp2_with fail
          refine (show Calls Tryd.prog 7 #[.string (toB (joinL ls))] w3 (SplitPost w3 (joinL ls)) from split_any (toB (joinL ls)) w3 (by rw [toB_size]; unfold maxLen; omega) hm3).mono ?_
          rintro e w4 ⟨v4, rfl, hO4⟩
          obtain ⟨a4, c4, rfl, hn4, hx4⟩ := hO4.sized
          have hb4 := hb3.trans (hO4.below.mono hb3.size)
          have HS4 := Lib.hid hO4.sts
          have hm4 := hm.later hb4
          clear hO4
          by_cases h47 : joinL ls = [47]
          · have h1 := join_root ls h47
            have HO := Lib.hid (show okP (joinL ls) = true by rw [h47]; decide)
            have HZ := Lib.hid (show (namesL (joinL ls)).length = 0 by rw [h47]; decide)
            have HP := Lib.hid (show toB (joinL ls) = ⟨#[47]⟩ by rw [h47])
            have hz1 : (ls.length : Int) ≤ 1 := by omega
            rw [HP.out, HO.out]
            rw [HZ.out]
            clear h47
            go_wp2_with fail
            go_ret
            exact ⟨rfl, hb4⟩
          · have HE : Hid (∀ (hf : ∀ l ∈ ls, (47 : UInt8) ∉ l), okP (joinL ls) = (rightL ls && decide (sumL ls ≤ 40)) ∧ (okP (joinL ls) = true → namesL (joinL ls) = ls)) := Lib.hid (okP_join ls hne h47)
            have HRi := Lib.hid (show Calls Tryd.prog 10 #[.string (toB (joinL ls))] w4 fun e w' => e = .returned (.bool (decide (namesL (joinL ls) ≠ []))) ∧ Below w4.heap.size w4 w' from right_any (toB (joinL ls)) w4 (by rw [toB_size]; unfold maxLen; omega) hm4)
            have HSL := Lib.hid (HSS.out w4 hb4)
            have hJ : (joinL ls == [47]) = false := beq_eq_false_iff_ne.2 h47
            have HA20 := Lib.hid (show ∀ k (h : k < ls.length), ls[k].length ≤ 20 from fun k h => HA.out _ (List.getElem_mem h))
            have hcell : ∀ k (h : k < ls.length), w4.cell? ⟨b, o + k, none⟩ = some (.string (toB ls[k])) := fun k h => by rw [hb4.cell (p := ⟨b, o + k, none⟩) hb]; exact HC.out k h
            have HC4 := Lib.hid hcell
            clear hcell HSS HA
            generalize joinL ls = Y at *
            go_wp2_with fail
            go_loop [68] (fun i => ∃ k : Nat, k ≤ ls.length ∧ i = .int .i64 k ∧ Hid (∀ l ∈ ls.take k, (47 : UInt8) ∉ l)) (fun i => ls.length - (intOf i).toNat)
            case atStart => exact ⟨0, Nat.zero_le _, rfl, fun l hl => by simp at hl⟩
            case round =>
              obtain ⟨k, hk, rfl, HF⟩ := hrel
              by_cases hlt : k < ls.length
              · have hc := HC4.out k hlt
                have hl20 := HA20.out k hlt
                have HTk := Lib.hid (show ls.take (k + 1) = ls.take k ++ [ls[k]] from List.take_succ_eq_append_getElem hlt)
                generalize ls[k] = l at *
                go_wp2_with fail
                go_loop [74] (fun i => ∃ j : Nat, j ≤ l.length ∧ i = .int .i64 j ∧ Hid ((47 : UInt8) ∉ l.take j)) (fun i => l.length - (intOf i).toNat)
                case atStart => exact ⟨0, Nat.zero_le _, rfl, by simp [Hid]⟩
                case round =>
                  obtain ⟨j, hj, rfl, HL⟩ := hrel
                  by_cases hjt : j < l.length
                  · have hjs : j < (toB l).size := by rw [toB_size]; exact hjt
                    have hbi : ((((toB l)[j]'hjs).toNat : Int) == 47) = decide (l[j] = 47) := byte_int l[j]
                    have HT2 := Lib.hid (show l.take (j + 1) = l.take j ++ [l[j]] from List.take_succ_eq_append_getElem hjt)
                    by_cases h4 : l[j] = 47
                    · rw [decide_eq_true h4] at hbi
                      clear h4
                      go_wp2_with fail
                      go_ret
                      exact ⟨rfl, hb4⟩
                    · rw [decide_eq_false h4] at hbi
                      have HL2 := Lib.hid (show (47 : UInt8) ∉ l.take (j + 1) by
                        rw [HT2.out]
                        intro h
                        rcases List.mem_append.1 h with h | h
                        · exact HL.out h
                        · exact h4 (List.mem_singleton.1 h).symm)
                      clear h4
                      go_wp2_with fail
                      go_round
                      case rel => exact ⟨j + 1, by omega, by go_num, HL2⟩
                      case measure => simp [intOf]; omega
                  · have HF2 := Lib.hid (show ∀ x ∈ ls.take (k + 1), (47 : UInt8) ∉ x from fun x hx => by
                      rw [HTk.out] at hx
                      rcases List.mem_append.1 hx with h | h
                      · exact HF.out x h
                      · rw [List.mem_singleton.1 h]
                        have := HL.out
                        rwa [List.take_of_length_le (by omega)] at this)
                    go_wp2_with fail
                    go_round
                    case rel => exact ⟨k + 1, by omega, by go_num, HF2⟩
                    case measure => simp [intOf]; omega
              · obtain ⟨e1, e2⟩ := HE.out (fun x hx => HF.out x (by rwa [List.take_of_length_le (by omega)]))
                have hsm : sumL ls ≤ 168 := hsum
                cases ho : okP Y with
                | true =>
                  rw [ho] at e1
                  have hr : rightL ls = true := by
                    cases h : rightL ls with
                    | true => rfl
                    | false => rw [h] at e1; cases e1
                  have hs40 : sumL ls ≤ 40 := by
                    rw [hr] at e1
                    by_cases h : sumL ls ≤ 40
                    · exact h
                    · rw [decide_eq_false h] at e1; cases e1
                  have hnm := e2 ho
                  have HSm := Lib.hid (same_any _ _ _ _ w4 HS4.out HSL.out (by rw [hnm]; omega) (by omega))
                  rw [hnm] at HSm HRi hn4
                  rw [show sameL ls ls = true from decide_eq_true rfl] at HSm
                  rw [show decide (ls ≠ []) = true from decide_eq_true hne] at HRi
                  have HNm := Lib.hid hnm
                  have HOk := Lib.hid ho
                  have HRr := Lib.hid hr
                  clear hnm e1 e2 hr ho HS4 HSL HE hne
                  rw [HNm.out, HRr.out]
                  generalize sumL ls = X at *
                  go_wp2_with fail
                  refine HSm.out.mono ?_
                  rintro e w' ⟨rfl, rfl⟩
                  go_wp2_with fail
                  refine HRi.out.mono ?_
                  rintro e w5 ⟨rfl, hb5⟩
                  have hb5 := hb4.trans (hb5.mono hb4.size)
                  go_wp2_with fail
                  go_ret
                  exact ⟨rfl, hb5⟩
                | false =>
                  have hnm := names_no ho
                  rw [hnm] at HRi
                  rw [show decide (([] : List (List UInt8)) ≠ []) = false from rfl] at HRi
                  rw [ho] at e1
                  have HOk := Lib.hid ho
                  have HNm := Lib.hid hnm
                  clear HS4 HSL HE hne e2
                  by_cases hr : rightL ls = true
                  · rw [hr] at e1
                    have hs40 : ¬ sumL ls ≤ 40 := fun h => by rw [decide_eq_true h] at e1; cases e1
                    have HRr := Lib.hid hr
                    clear e1 hr hnm ho
                    rw [HNm.out, HRr.out]
                    generalize sumL ls = X at *
                    have x40 : ¬ (X : Int) ≤ 40 := by omega
                    go_wp2_with fail
                    refine HRi.out.mono ?_
                    rintro e w5 ⟨rfl, hb5⟩
                    have hb5 := hb4.trans (hb5.mono hb4.size)
                    go_wp2_with fail
                    go_ret
                    exact ⟨rfl, hb5⟩
                  · have hr2 : rightL ls = false := by simpa using hr
                    have HRr := Lib.hid hr2
                    clear e1 hr hr2 hnm ho
                    rw [HNm.out, HRr.out]
                    generalize sumL ls = X at *
                    go_wp2_with fail
                    refine HRi.out.mono ?_
                    rintro e w5 ⟨rfl, hb5⟩
                    have hb5 := hb4.trans (hb5.mono hb4.size)
                    go_wp2_with fail
                    go_ret
                    exact ⟨rfl, hb5⟩
    · have e0 : ls = [] := List.length_eq_zero_iff.1 (by omega)
      subst e0
      unfold maxLen at *
      go_enter Tryd.func5, Tryd.ntmps5
      go_wp2_with fail
      refine (alive_any w hm).mono ?_
      rintro e w1 ⟨rfl, hb1⟩
      have hm1 := hm.later hb1
      have hJ : Calls Tryd.prog 14 #[.slice a 0 c] w1 fun e w' => e = .returned (.string ⟨#[47]⟩) ∧ Below w1.heap.size w1 w' := join_any (.slice a 0 c) [] w1 (HV.out.later hb1) (by decide) (by decide)
      have HS : Hid (∀ w', Mx w' → Calls Tryd.prog 7 #[.string ⟨#[47]⟩] w' (SplitPost w' [47])) := Lib.hid fun w' h => split_any ⟨#[47]⟩ w' (by decide) h
      have HO := Lib.hid (show okP [47] = true by decide)
      have HZ := Lib.hid (show (namesL [47]) = [] by decide)
      go_wp2_with fail
      go_loop [28] (fun i => i = .int .i64 0) (fun i => 0)
      case atStart => rfl
      case round =>
        obtain rfl := hrel
        go_wp2_with fail
        refine hJ.mono ?_
        rintro e w2 ⟨rfl, hb2⟩
        have hm2 := hm1.later hb2
        have hb2 := hb1.trans (hb2.mono hb1.size)
        go_wp2_with fail
        refine (HS.out w2 hm2).mono ?_
        rintro e w3 ⟨v3, rfl, hO3⟩
        rw [HZ.out] at hO3
        rw [HO.out]
        obtain ⟨a3, c3, rfl, _, _⟩ := hO3.sized
        have hb3 := hb2.trans (hO3.below.mono hb2.size)
        clear hO3
        go_wp2_with fail
        go_ret
        exact ⟨rfl, hb3⟩
  · have h8' : ¬ (ls.length : Int) ≤ 8 := by omega
    clear h3
    go_enter Tryd.func5, Tryd.ntmps5
    go_wp2_with fail
    refine (alive_any w hm).mono ?_
    rintro e w1 ⟨rfl, hb1⟩
    go_wp2_with fail
    go_ret
    exact ⟨rfl, hb1⟩
end Go.Proofs.YteagomlbinfccaaDoor
