/- The walk of PathWithin. -/
import Derived.Test.YteagomlbinfccaaDoorPAlive
namespace Go.Proofs.YteagomlbinfccaaDoor
open Go.RowKit
set_option linter.unusedVariables false
set_option linter.unusedSimpArgs false

theorem withinL_iff (l m : List UInt8) : withinL l m = true ↔ okP l = true ∧ okP m = true ∧ (namesL m).length < (namesL l).length ∧ (namesL l).take (namesL m).length = namesL m := by
  unfold withinL sameL
  simp only [Bool.and_eq_true, decide_eq_true_eq]
  exact ⟨fun ⟨⟨⟨a, b⟩, c⟩, d⟩ => ⟨a, b, c, d⟩, fun ⟨a, b, c, d⟩ => ⟨⟨⟨a, b⟩, c⟩, d⟩⟩
theorem withinL_trans {a b c : List UInt8} (h1 : withinL a b = true) (h2 : withinL b c = true) : withinL a c = true := by
  rw [withinL_iff] at *
  obtain ⟨x1, x2, x3, x4⟩ := h1
  obtain ⟨_, y2, y3, y4⟩ := h2
  refine ⟨x1, y2, by omega, ?_⟩
  rw [← x4, List.take_take, Nat.min_eq_left (by omega)] at y4
  exact y4
set_option maxRecDepth 100000 in
set_option maxHeartbeats 1000000 in
theorem within_law (a b c : ByteArray) (w : World) (ha : a.size ≤ maxLen) (hb : b.size ≤ maxLen) (hc : c.size ≤ maxLen) (hm : Mx w) :
    Calls Tryd.prog 4 #[.string a, .string b, .string c] w fun e w' => e = .returned (.bool true) ∧ Below w.heap.size w w' := by
  have W1 := fun w' (h : Mx w') => within_any a b w' ha hb h
  have W2 := fun w' (h : Mx w') => within_any b c w' hb hc h
  have W3 := fun w' (h : Mx w') => within_any a c w' ha hc h
  have HT := Lib.hid (withinL_trans (a := a.data.toList) (b := b.data.toList) (c := c.data.toList))
  have R1 := fun w' => refsplit_any a w' ha
  have R2 := fun w' => refsplit_any b w' hb
  unfold maxLen at ha hb hc
  by_cases h1 : a.size ≤ 60
  · by_cases h2 : b.size ≤ 60
    · by_cases h3 : c.size ≤ 60
      · go_enter Tryd.func4, Tryd.ntmps4
        go_wp2_with fail
        refine (alive_any w hm).mono ?_
        rintro e w1 ⟨rfl, hb1⟩
        go_wp2_with fail
        refine (R1 w1).mono ?_
        rintro e w2 ⟨v2, rfl, hO2⟩
        obtain ⟨a2, c2, rfl, hn2, hx2⟩ := hO2.sized
        have hb2 := hb1.trans (hO2.below.mono hb1.size)
        have HS := Lib.hid hO2.sts
        clear hO2
        go_wp2_with fail
        refine (R2 w2).mono ?_
        rintro e w3 ⟨v3, rfl, hO3⟩
        obtain ⟨a3, c3, rfl, hn3, hx3⟩ := hO3.sized
        have hb3 := hb2.trans (hO3.below.mono hb2.size)
        have HS1 := Lib.hid (HS.out.later hO3.below)
        have HS2 := Lib.hid hO3.sts
        clear hO3 HS
        have hm3 := hm.later hb3
        generalize a.data.toList = l at *
        generalize b.data.toList = m at *
        generalize c.data.toList = k at *
        have hle := (names_bounds l).1
        have hle2 := (names_bounds m).1
        have HT2 := Lib.hid (fun k => HS1.out.take k)
        unfold maxLen at *
        by_cases k1 : okP l = true
        · by_cases k2 : okP m = true
          · by_cases k3 : (namesL m).length < (namesL l).length
            · have HW := Lib.hid (show withinL l m = sameL ((namesL l).take (namesL m).length) (namesL m) by unfold withinL; rw [k1, k2, decide_eq_true k3]; rfl)
              have HTk := Lib.hid (HT2.out (namesL m).length (by omega))
              have hpl : ((namesL l).take (namesL m).length).length ≤ 1000000 := by rw [List.length_take]; omega
              generalize (namesL l).take (namesL m).length = pre at *
              have HE := Lib.hid (same_any (.slice a2 (namesL m).length c2) (.slice a3 (namesL m).length c3) pre (namesL m) w3 HTk.out HS2.out hpl (by omega))
              clear HT2 HTk HS1 HS2
              generalize (namesL l).length = n1 at *
              generalize (namesL m).length = n2 at *
              generalize sameL pre (namesL m) = ans at *
              have x1 : (n2 : Int) ≤ (c2 : Int) := by omega
              have x2 : n2 ≤ c2 := by omega
              have x3 : (n2 : Int) < (n1 : Int) := by omega
              go_wp2_with fail
              rw [show (min (n1 : Int) (n2 : Int)).toNat = n2 by omega]
              refine HE.out.mono ?_
              rintro e w' ⟨rfl, rfl⟩
              go_wp2_with fail
              refine (W1 _ hm3).mono ?_
              rintro e w4 ⟨rfl, hb4⟩
              have hb4 := hb3.trans (hb4.mono hb3.size)
              have hm4 := hm.later hb4
              rw [HW.out]
              cases ans with
              | false =>
                go_wp2_with fail
                refine (W1 _ hm4).mono ?_
                rintro e w5 ⟨rfl, hb5⟩
                have hb5 := hb4.trans (hb5.mono hb4.size)
                have hm5 := hm.later hb5
                rw [HW.out]
                go_wp2_with fail
                go_ret
                exact ⟨rfl, hb5⟩
              | true =>
                go_wp2_with fail
                refine (W1 _ hm4).mono ?_
                rintro e w5 ⟨rfl, hb5⟩
                have hb5 := hb4.trans (hb5.mono hb4.size)
                have hm5 := hm.later hb5
                rw [HW.out]
                go_wp2_with fail
                refine (W2 _ hm5).mono ?_
                rintro e w6 ⟨rfl, hb6⟩
                have hb6 := hb5.trans (hb6.mono hb5.size)
                have hm6 := hm.later hb6
                have HX := Lib.hid (HT.out HW.out)
                generalize withinL m k = p2 at *
                cases p2 with
                | false =>
                  go_wp2_with fail
                  go_ret
                  exact ⟨rfl, hb6⟩
                | true =>
                  go_wp2_with fail
                  refine (W3 _ hm6).mono ?_
                  rintro e w7 ⟨rfl, hb7⟩
                  have hb7 := hb6.trans (hb7.mono hb6.size)
                  rw [HX.out (by first | rfl | trivial)]
                  go_wp2_with fail
                  go_ret
                  exact ⟨rfl, hb7⟩
            · have HW := Lib.hid (show withinL l m = false by unfold withinL; rw [decide_eq_false k3]; simp)
              have x3 : ¬ ((namesL m).length : Int) < ((namesL l).length : Int) := by omega
              clear HT2 HS1 HS2
              generalize (namesL l).length = n1 at *
              generalize (namesL m).length = n2 at *
              go_wp2_with fail
              refine (W1 _ hm3).mono ?_
              rintro e w4 ⟨rfl, hb4⟩
              have hb4 := hb3.trans (hb4.mono hb3.size)
              have hm4 := hm.later hb4
              rw [HW.out]
              go_wp2_with fail
              refine (W1 _ hm4).mono ?_
              rintro e w5 ⟨rfl, hb5⟩
              have hb5 := hb4.trans (hb5.mono hb4.size)
              have hm5 := hm.later hb5
              rw [HW.out]
              go_wp2_with fail
              go_ret
              exact ⟨rfl, hb5⟩
          · have k2' : okP m = false := by simpa using k2
            have HW := Lib.hid (show withinL l m = false by unfold withinL; rw [k2']; simp)
            clear HT2 HS1 HS2 k2
            go_wp2_with fail
            refine (W1 _ hm3).mono ?_
            rintro e w4 ⟨rfl, hb4⟩
            have hb4 := hb3.trans (hb4.mono hb3.size)
            have hm4 := hm.later hb4
            rw [HW.out]
            go_wp2_with fail
            refine (W1 _ hm4).mono ?_
            rintro e w5 ⟨rfl, hb5⟩
            have hb5 := hb4.trans (hb5.mono hb4.size)
            have hm5 := hm.later hb5
            rw [HW.out]
            go_wp2_with fail
            go_ret
            exact ⟨rfl, hb5⟩
        · have k1' : okP l = false := by simpa using k1
          have HW := Lib.hid (show withinL l m = false by unfold withinL; rw [k1']; simp)
          clear HT2 HS1 HS2 k1
          go_wp2_with fail
          refine (W1 _ hm3).mono ?_
          rintro e w4 ⟨rfl, hb4⟩
          have hb4 := hb3.trans (hb4.mono hb3.size)
          have hm4 := hm.later hb4
          rw [HW.out]
          go_wp2_with fail
          refine (W1 _ hm4).mono ?_
          rintro e w5 ⟨rfl, hb5⟩
          have hb5 := hb4.trans (hb5.mono hb4.size)
          have hm5 := hm.later hb5
          rw [HW.out]
          go_wp2_with fail
          go_ret
          exact ⟨rfl, hb5⟩
      · have h3' : ¬ (c.size : Int) ≤ 60 := by omega
        go_enter Tryd.func4, Tryd.ntmps4
        go_wp2_with fail
        refine (alive_any w hm).mono ?_
        rintro e w1 ⟨rfl, hb1⟩
        go_wp2_with fail
        go_ret
        exact ⟨rfl, hb1⟩
    · have h2' : ¬ (b.size : Int) ≤ 60 := by omega
      go_enter Tryd.func4, Tryd.ntmps4
      go_wp2_with fail
      refine (alive_any w hm).mono ?_
      rintro e w1 ⟨rfl, hb1⟩
      go_wp2_with fail
      go_ret
      exact ⟨rfl, hb1⟩
  · have h1' : ¬ (a.size : Int) ≤ 60 := by omega
    go_enter Tryd.func4, Tryd.ntmps4
    go_wp2_with fail
    refine (alive_any w hm).mono ?_
    rintro e w1 ⟨rfl, hb1⟩
    go_wp2_with fail
    go_ret
    exact ⟨rfl, hb1⟩
end Go.Proofs.YteagomlbinfccaaDoor
