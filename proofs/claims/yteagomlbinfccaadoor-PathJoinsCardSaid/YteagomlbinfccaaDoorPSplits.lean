/- The walk of PathSplits. -/
import Derived.Test.YteagomlbinfccaaDoorPAlive
namespace Go.Proofs.YteagomlbinfccaaDoor
open Go.RowKit
set_option linter.unusedVariables false
set_option linter.unusedSimpArgs false

theorem join_parts (l : List UInt8) : Lib.join (partsL l) [47] = l := by
  induction l with
  | nil => rfl
  | cons c l ih =>
    have hne := partsL_ne l
    unfold partsL
    generalize partsL l = r at *
    cases r with
    | nil => exact absurd rfl hne
    | cons q r =>
      rw [Lib.join_cons] at ih
      split
      · rename_i hc
        rw [Lib.join_cons, ← ih, hc]
        simp [Lib.joinTail]
      · rw [glue, Lib.join_cons, ← ih]; rfl
theorem joinL_names {l : List UInt8} (h : okP l = true) : joinL (namesL l) = l := by
  by_cases h1 : l = [47]
  · subst h1; decide
  · have h2 : namesL l = partsL l.tail := by unfold namesL; rw [if_neg h1, h]; rfl
    rw [h2, joinL, join_parts]
    unfold okP at h
    rw [decide_eq_false h1] at h
    simp only [Bool.false_or, Bool.and_eq_true, decide_eq_true_eq] at h
    have h3 := h.1.1.2
    cases l with
    | nil => cases h3
    | cons c l => simp at h3; subst h3; rfl
theorem names_no {l : List UInt8} (h : okP l = false) : namesL l = [] := by
  unfold namesL; rw [h]; split <;> rfl
theorem names_split (l : List UInt8) : namesL l = [] ∨ ∃ ini z, namesL l = ini ++ [z] := by
  rcases List.eq_nil_or_concat (namesL l) with h | ⟨a, b, h⟩
  · exact .inl h
  · exact .inr ⟨a, b, by rw [h, List.concat_eq_append]⟩
set_option maxRecDepth 100000 in
set_option maxHeartbeats 4000000 in
theorem splits_law (s : ByteArray) (w : World) (hs : s.size ≤ maxLen) (hm : Mx w) :
    Calls Tryd.prog 3 #[.string s] w fun e w' => e = .returned (.bool true) ∧ Below w.heap.size w w' := by
  have hs0 := hs
  have P1 := fun w' (h : Mx w') => split_any s w' hs h
  have R1 := fun w' => refsplit_any s w' hs
  have Q1 := fun w' (h : Mx w') => right_any s w' hs h
  have N1 := fun w' => name_any s w' hs
  have N2 := fun w' => refname_any s w' hs
  have HY := Lib.hid (show sameL (namesL s.data.toList) (namesL s.data.toList) = true from decide_eq_true rfl)
  have hle := (names_bounds s.data.toList).1
  unfold maxLen at hs
  by_cases h1 : s.size ≤ 100
  · rcases names_split s.data.toList with h2 | ⟨ini, z, h2⟩
    · have HD := Lib.hid (show decide (namesL s.data.toList ≠ []) = false from decide_eq_false fun h => h h2)
      have HK := Lib.hid h2
      clear h2
      have hl0 : (namesL s.data.toList).length = 0 := by rw [HK.out]; rfl
      by_cases k1 : okP s.data.toList = true
      · have HJ := Lib.hid (joinL_names k1)
        have HO := Lib.hid k1
        clear k1
        go_enter Tryd.func3, Tryd.ntmps3
        go_wp2_with fail
        refine (alive_any w hm).mono ?_
        rintro e w1 ⟨rfl, hb1⟩
        have hm1 := hm.later hb1
        go_wp2_with fail
        refine (P1 w1 hm1).mono ?_
        rintro e w2 ⟨v2, rfl, hO2⟩
        obtain ⟨a2, c2, rfl, hn2, hx2⟩ := hO2.sized
        have hb2 := hb1.trans (hO2.below.mono hb1.size)
        have HS := Lib.hid hO2.sts
        clear hO2
        go_wp2_with fail
        refine (R1 w2).mono ?_
        rintro e w3 ⟨v3, rfl, hO3⟩
        obtain ⟨a3, c3, rfl, hn3, hx3⟩ := hO3.sized
        have hb3 := hb2.trans (hO3.below.mono hb2.size)
        have HS1 := Lib.hid (HS.out.later hO3.below)
        have HS2 := Lib.hid hO3.sts
        clear hO3 HS
        have hm3 := hm.later hb3
        have HE := Lib.hid (same_any _ _ _ _ w3 HS1.out HS2.out (by omega) (by omega))
        rw [HY.out] at HE
        unfold maxLen at *
        rw [HK.out] at hn2 hn3 HE ⊢
        rw [HO.out]
        go_wp2_with fail
        refine HE.out.mono ?_
        rintro e w' ⟨rfl, rfl⟩
        go_wp2_with fail
        refine (Q1 w3 hm3).mono ?_
        rintro e w4 ⟨rfl, hb4⟩
        have HS3 := Lib.hid (HS1.out.later hb4)
        have HS4 := Lib.hid (HS2.out.later hb4)
        have hb4 := hb3.trans (hb4.mono hb3.size)
        clear HS1 HS2
        rw [HD.out]
        go_wp2_with fail
        refine (N1 w4).mono ?_
        rintro e w5 ⟨rfl, hb5⟩
        have HS5 := Lib.hid (HS3.out.later hb5)
        have HS6 := Lib.hid (HS4.out.later hb5)
        have hb5 := hb4.trans (hb5.mono hb4.size)
        have hm5 := hm.later hb5
        clear HS3 HS4
        go_wp2_with fail
        refine (N2 w5).mono ?_
        rintro e w' ⟨rfl, rfl⟩
        go_wp2_with fail
        refine (parent_no s w5 hs0 hm5 HK.out).mono ?_
        rintro e w6 ⟨rfl, hb6⟩
        have hb6 := hb5.trans (hb6.mono hb5.size)
        go_wp2_with fail
        have hj : toB (joinL []) = s := by
          have := HJ.out
          rw [HK.out] at this
          rw [this]
        refine (join_any (.slice a2 0 c2) [] w6 ⟨a2, c2, rfl, Nat.zero_le _, by unfold maxLen; omega, fun h => absurd h (by simp)⟩ (by decide) (by decide)).mono ?_
        rintro e w7 ⟨rfl, hb7⟩
        have hb7 := hb6.trans (hb7.mono hb6.size)
        rw [hj]
        clear hj
        go_wp2_with fail
        go_ret
        exact ⟨rfl, hb7⟩
      · have k2 : okP s.data.toList = false := by simpa using k1
        have HO := Lib.hid k2
        clear k1 k2
        go_enter Tryd.func3, Tryd.ntmps3
        go_wp2_with fail
        refine (alive_any w hm).mono ?_
        rintro e w1 ⟨rfl, hb1⟩
        have hm1 := hm.later hb1
        go_wp2_with fail
        refine (P1 w1 hm1).mono ?_
        rintro e w2 ⟨v2, rfl, hO2⟩
        obtain ⟨a2, c2, rfl, hn2, hx2⟩ := hO2.sized
        have hb2 := hb1.trans (hO2.below.mono hb1.size)
        have HS := Lib.hid hO2.sts
        clear hO2
        go_wp2_with fail
        refine (R1 w2).mono ?_
        rintro e w3 ⟨v3, rfl, hO3⟩
        obtain ⟨a3, c3, rfl, hn3, hx3⟩ := hO3.sized
        have hb3 := hb2.trans (hO3.below.mono hb2.size)
        have HS1 := Lib.hid (HS.out.later hO3.below)
        have HS2 := Lib.hid hO3.sts
        clear hO3 HS
        have hm3 := hm.later hb3
        have HE := Lib.hid (same_any _ _ _ _ w3 HS1.out HS2.out (by omega) (by omega))
        rw [HY.out] at HE
        unfold maxLen at *
        rw [HK.out] at hn2 hn3 HE ⊢
        rw [HO.out]
        go_wp2_with fail
        refine HE.out.mono ?_
        rintro e w' ⟨rfl, rfl⟩
        go_wp2_with fail
        refine (Q1 w3 hm3).mono ?_
        rintro e w4 ⟨rfl, hb4⟩
        have HS3 := Lib.hid (HS1.out.later hb4)
        have HS4 := Lib.hid (HS2.out.later hb4)
        have hb4 := hb3.trans (hb4.mono hb3.size)
        clear HS1 HS2
        rw [HD.out]
        go_wp2_with fail
        refine (N1 w4).mono ?_
        rintro e w5 ⟨rfl, hb5⟩
        have HS5 := Lib.hid (HS3.out.later hb5)
        have HS6 := Lib.hid (HS4.out.later hb5)
        have hb5 := hb4.trans (hb5.mono hb4.size)
        have hm5 := hm.later hb5
        clear HS3 HS4
        go_wp2_with fail
        refine (N2 w5).mono ?_
        rintro e w' ⟨rfl, rfl⟩
        go_wp2_with fail
        refine (parent_no s w5 hs0 hm5 HK.out).mono ?_
        rintro e w6 ⟨rfl, hb6⟩
        have hb6 := hb5.trans (hb6.mono hb5.size)
        go_wp2_with fail
        go_ret
        exact ⟨rfl, hb6⟩
    · have k1 : okP s.data.toList = true := by
        cases h : okP s.data.toList with
        | true => rfl
        | false => rw [names_no h] at h2; simp at h2
      have HD := Lib.hid (show decide (namesL s.data.toList ≠ []) = true from decide_eq_true fun h => by rw [h] at h2; simp at h2)
      have HJ := Lib.hid (joinL_names k1)
      have HO := Lib.hid k1
      have HK := Lib.hid h2
      have HLn := Lib.hid (show (namesL s.data.toList).length = ini.length + 1 by rw [h2]; simp)
      have hl5 : ini.length + 1 ≤ 5 := by rw [← HLn.out]; exact hle
      clear k1 h2
      go_enter Tryd.func3, Tryd.ntmps3
      go_wp2_with fail
      refine (alive_any w hm).mono ?_
      rintro e w1 ⟨rfl, hb1⟩
      have hm1 := hm.later hb1
      go_wp2_with fail
      refine (P1 w1 hm1).mono ?_
      rintro e w2 ⟨v2, rfl, hO2⟩
      obtain ⟨a2, c2, rfl, hn2, hx2⟩ := hO2.sized
      have hb2 := hb1.trans (hO2.below.mono hb1.size)
      have HS := Lib.hid hO2.sts
      clear hO2
      go_wp2_with fail
      refine (R1 w2).mono ?_
      rintro e w3 ⟨v3, rfl, hO3⟩
      obtain ⟨a3, c3, rfl, hn3, hx3⟩ := hO3.sized
      have hb3 := hb2.trans (hO3.below.mono hb2.size)
      have HS1 := Lib.hid (HS.out.later hO3.below)
      have HS2 := Lib.hid hO3.sts
      clear hO3 HS
      have hm3 := hm.later hb3
      have HE := Lib.hid (same_any _ _ _ _ w3 HS1.out HS2.out (by omega) (by omega))
      rw [HY.out] at HE
      unfold maxLen at *
      rw [HO.out]
      rw [HLn.out] at hn2 hn3 HE ⊢
      go_wp2_with fail
      refine HE.out.mono ?_
      rintro e w' ⟨rfl, rfl⟩
      go_wp2_with fail
      refine (Q1 w3 hm3).mono ?_
      rintro e w4 ⟨rfl, hb4⟩
      have HS3 := Lib.hid (HS1.out.later hb4)
      have HS4 := Lib.hid (HS2.out.later hb4)
      have hb4 := hb3.trans (hb4.mono hb3.size)
      clear HS1 HS2
      rw [HD.out]
      go_wp2_with fail
      refine (N1 w4).mono ?_
      rintro e w5 ⟨rfl, hb5⟩
      have HS5 := Lib.hid (HS3.out.later hb5)
      have HS6 := Lib.hid (HS4.out.later hb5)
      have hb5 := hb4.trans (hb5.mono hb4.size)
      have hm5 := hm.later hb5
      clear HS3 HS4
      go_wp2_with fail
      refine (N2 w5).mono ?_
      rintro e w' ⟨rfl, rfl⟩
      go_wp2_with fail
      refine (parent_yes s w5 hs0 hm5 ini z HK.out).mono ?_
      rintro e w6 ⟨rfl, hb6⟩
      have HS7 := Lib.hid (HS5.out.later hb6)
      have HS8 := Lib.hid (HS6.out.later hb6)
      have hb6 := hb5.trans (hb6.mono hb5.size)
      clear HS5 HS6
      go_wp2_with fail
      have h7 := HS7.out
      have h8 := HS8.out
      rw [HLn.out] at h7 h8
      have hnb := (names_bounds s.data.toList).2
      have hz1 : ∀ l ∈ ini, l.length ≤ 12 := fun l hl => (name_len (hnb l (by rw [HK.out]; exact List.mem_append_left _ hl))).2
      refine (join_any (.slice a2 (ini.length + 1) c2) (namesL s.data.toList) w6 h7 (join_size _ 12 (fun l hl => (name_len (hnb l hl)).2) (by omega) (by omega)) (by omega)).mono ?_
      rintro e w7 ⟨rfl, hb7⟩
      rw [HJ.out, toB_bytes]
      have h9 := h8.later hb7
      have h10 := h9.take ini.length (by rw [HLn.out]; omega)
      rw [HK.out, show (ini ++ [z]).take ini.length = ini by simp] at h10
      obtain ⟨a', c', e1, _, _, h11⟩ := h9
      injection e1 with e1 e2 e3
      subst e1 e3
      obtain ⟨b, o, rfl, hbl, hcl⟩ := h11 (by rw [HLn.out]; omega)
      have hc := hcl ini.length (by rw [HLn.out]; omega)
      rw [show (namesL s.data.toList)[ini.length]'(by rw [HLn.out]; omega) = z by simp [HK.out]] at hc
      have hb7 := hb6.trans (hb7.mono hb6.size)
      have RJ := Lib.hid (refjoin_any (.slice (some ⟨b, o, none⟩) ini.length c3) ini w7 h10 (by omega) (fun l hl => by have := hz1 l hl; omega))
      clear h7 h8 h10 e2 hcl h11 HS7 HS8 hnb hz1
      have q1 : (0 : Int) ≤ (ini.length : Int) := by omega
      have q2 : (ini.length : Int) ≤ (c3 : Int) := by omega
      have q3 : (ini.length : Int) < (ini.length : Int) + 1 := by omega
      have q4 : ini.length < ini.length + 1 := by omega
      have q5 : ini.length ≤ c3 := by omega
      go_wp2_with fail
      refine RJ.out.mono ?_
      rintro e w' ⟨rfl, rfl⟩
      go_wp2_with fail
      go_ret
      exact ⟨rfl, hb7⟩
  · have h1' : ¬ (s.size : Int) ≤ 100 := by omega
    go_enter Tryd.func3, Tryd.ntmps3
    go_wp2_with fail
    refine (alive_any w hm).mono ?_
    rintro e w1 ⟨rfl, hb1⟩
    go_wp2_with fail
    go_ret
    exact ⟨rfl, hb1⟩
end Go.Proofs.YteagomlbinfccaaDoor
