/- VerOrders: its walk. -/
import Derived.Test.YtlcepgbliblilaaDoorVe6
namespace Go.Proofs.YtlcepgbliblilaaDoor
open Go.RowKit
set_option linter.unusedVariables false
set_option linter.unusedSimpArgs false
set_option maxRecDepth 100000

theorem eq_lists {a b : ByteArray} : (a.toList == b.toList) = decide (a.data.toList = b.data.toList) := by
  rw [Lib.toList_data, Lib.toList_data, Bool.eq_iff_iff]; simp
set_option maxHeartbeats 8000000 in
theorem orders_law (a b c : ByteArray) (w : World) (ha : a.size ≤ maxLen) (hb : b.size ≤ maxLen) (hc : c.size ≤ maxLen) (hm : VMx w) :
    Calls Tryd.prog 4 #[.string a, .string b, .string c] w fun e w' => e = .returned (.bool true) ∧ Below w.heap.size w w' := by
  unfold maxLen at ha hb hc
  by_cases h1 : a.size ≤ 40
  · by_cases h2 : b.size ≤ 40
    · by_cases h3 : c.size ≤ 40
      · have hq : rightV a.data.toList = true → (cmpV a.data.toList b.data.toList = 0 ↔ a.data.toList = b.data.toList) := fun hr => ⟨fun h => cmpV_eq hr h, fun h => by rw [h]; exact cmpV_self _⟩
        have ht := cmpV_trans a.data.toList b.data.toList c.data.toList
        have hs := cmpV_sign a.data.toList b.data.toList
        have hL := eq_lists (a := a) (b := b)
        obtain ⟨x, hx⟩ : ∃ x, cmpV a.data.toList b.data.toList = x := ⟨_, rfl⟩
        have hx' : cmpV b.data.toList a.data.toList = -x := by rw [cmpV_anti, hx]
        obtain ⟨y, hy⟩ : ∃ y, cmpV b.data.toList c.data.toList = y := ⟨_, rfl⟩
        obtain ⟨z, hz⟩ : ∃ z, cmpV a.data.toList c.data.toList = z := ⟨_, rfl⟩
        obtain ⟨r, hr⟩ : ∃ r, rightV a.data.toList = r := ⟨_, rfl⟩
        have CX := vcmp_from hm a b (by omega) (by omega) x hx
        have CX' := vcmp_from hm b a (by omega) (by omega) (-x) hx'
        have CY := vcmp_from hm b c (by omega) (by omega) y hy
        have CZ := vcmp_from hm a c (by omega) (by omega) z hz
        have CR := vright_from hm a (by omega) r hr
        have CA := valive_any w hm
        rw [hx] at hq ht hs
        rw [hy, hz] at ht
        rw [hr] at hq
        obtain ⟨q, hqd⟩ : ∃ q, decide (a.data.toList = b.data.toList) = q := ⟨_, rfl⟩
        rw [hqd] at hL
        have hb0 : Below w.heap.size w w := Below.refl _ _
        have hq' : r = true → (x = 0 ↔ q = true) := fun h => by rw [hq h, ← hqd, decide_eq_true_iff]
        clear hx hx' hy hz hr hqd hq hm
        cases r with
        | false =>
          clear hq'
          clear hL
          rcases hs with rfl | rfl | rfl
          · clear ht CY CZ
            go_enter Tryd.func4, Tryd.ntmps4
            go_wp2_with fail
            refine CA.mono ?_
            rintro e w1 ⟨rfl, hb1⟩
            go_wp2_with fail
            refine (CX _ hb1).mono ?_
            rintro e w2 ⟨rfl, hb2⟩
            go_wp2_with fail
            refine (CX' _ hb2).mono ?_
            rintro e w3 ⟨rfl, hb3⟩
            go_wp2_with fail
            refine (CR _ hb3).mono ?_
            rintro e w4 ⟨rfl, hb4⟩
            go_wp2_with fail
            refine (CX _ hb4).mono ?_
            rintro e w5 ⟨rfl, hb5⟩
            go_wp2_with fail
            go_ret
            exact ⟨rfl, hb5⟩
          · by_cases h4 : y < 0
            · clear ht CZ
              go_enter Tryd.func4, Tryd.ntmps4
              go_wp2_with fail
              refine CA.mono ?_
              rintro e w1 ⟨rfl, hb1⟩
              go_wp2_with fail
              refine (CX _ hb1).mono ?_
              rintro e w2 ⟨rfl, hb2⟩
              go_wp2_with fail
              refine (CX' _ hb2).mono ?_
              rintro e w3 ⟨rfl, hb3⟩
              go_wp2_with fail
              refine (CR _ hb3).mono ?_
              rintro e w4 ⟨rfl, hb4⟩
              go_wp2_with fail
              refine (CX _ hb4).mono ?_
              rintro e w5 ⟨rfl, hb5⟩
              go_wp2_with fail
              refine (CY _ hb5).mono ?_
              rintro e w6 ⟨rfl, hb6⟩
              go_wp2_with fail
              go_ret
              exact ⟨rfl, hb6⟩
            · have h5 : 0 ≤ z := ht (by omega) (by omega)
              clear ht
              go_enter Tryd.func4, Tryd.ntmps4
              go_wp2_with fail
              refine CA.mono ?_
              rintro e w1 ⟨rfl, hb1⟩
              go_wp2_with fail
              refine (CX _ hb1).mono ?_
              rintro e w2 ⟨rfl, hb2⟩
              go_wp2_with fail
              refine (CX' _ hb2).mono ?_
              rintro e w3 ⟨rfl, hb3⟩
              go_wp2_with fail
              refine (CR _ hb3).mono ?_
              rintro e w4 ⟨rfl, hb4⟩
              go_wp2_with fail
              refine (CX _ hb4).mono ?_
              rintro e w5 ⟨rfl, hb5⟩
              go_wp2_with fail
              refine (CY _ hb5).mono ?_
              rintro e w6 ⟨rfl, hb6⟩
              go_wp2_with fail
              refine (CZ _ hb6).mono ?_
              rintro e w7 ⟨rfl, hb7⟩
              go_wp2_with fail
              go_ret
              exact ⟨rfl, hb7⟩
          · by_cases h4 : y < 0
            · clear ht CZ
              go_enter Tryd.func4, Tryd.ntmps4
              go_wp2_with fail
              refine CA.mono ?_
              rintro e w1 ⟨rfl, hb1⟩
              go_wp2_with fail
              refine (CX _ hb1).mono ?_
              rintro e w2 ⟨rfl, hb2⟩
              go_wp2_with fail
              refine (CX' _ hb2).mono ?_
              rintro e w3 ⟨rfl, hb3⟩
              go_wp2_with fail
              refine (CR _ hb3).mono ?_
              rintro e w4 ⟨rfl, hb4⟩
              go_wp2_with fail
              refine (CX _ hb4).mono ?_
              rintro e w5 ⟨rfl, hb5⟩
              go_wp2_with fail
              refine (CY _ hb5).mono ?_
              rintro e w6 ⟨rfl, hb6⟩
              go_wp2_with fail
              go_ret
              exact ⟨rfl, hb6⟩
            · have h5 : 0 ≤ z := ht (by omega) (by omega)
              clear ht
              go_enter Tryd.func4, Tryd.ntmps4
              go_wp2_with fail
              refine CA.mono ?_
              rintro e w1 ⟨rfl, hb1⟩
              go_wp2_with fail
              refine (CX _ hb1).mono ?_
              rintro e w2 ⟨rfl, hb2⟩
              go_wp2_with fail
              refine (CX' _ hb2).mono ?_
              rintro e w3 ⟨rfl, hb3⟩
              go_wp2_with fail
              refine (CR _ hb3).mono ?_
              rintro e w4 ⟨rfl, hb4⟩
              go_wp2_with fail
              refine (CX _ hb4).mono ?_
              rintro e w5 ⟨rfl, hb5⟩
              go_wp2_with fail
              refine (CY _ hb5).mono ?_
              rintro e w6 ⟨rfl, hb6⟩
              go_wp2_with fail
              refine (CZ _ hb6).mono ?_
              rintro e w7 ⟨rfl, hb7⟩
              go_wp2_with fail
              go_ret
              exact ⟨rfl, hb7⟩
        | true =>
          have hq2 := hq' rfl
          clear hq'
          rcases hs with rfl | rfl | rfl
          · obtain rfl : q = false := by simpa using hq2
            clear hq2
            clear ht CY CZ
            go_enter Tryd.func4, Tryd.ntmps4
            go_wp2_with fail
            refine CA.mono ?_
            rintro e w1 ⟨rfl, hb1⟩
            go_wp2_with fail
            refine (CX _ hb1).mono ?_
            rintro e w2 ⟨rfl, hb2⟩
            go_wp2_with fail
            refine (CX' _ hb2).mono ?_
            rintro e w3 ⟨rfl, hb3⟩
            go_wp2_with fail
            refine (CR _ hb3).mono ?_
            rintro e w4 ⟨rfl, hb4⟩
            go_wp2_with fail
            refine (CX _ hb4).mono ?_
            rintro e w5 ⟨rfl, hb5⟩
            go_wp2_with fail
            refine (CX _ hb5).mono ?_
            rintro e w6 ⟨rfl, hb6⟩
            go_wp2_with fail
            go_ret
            exact ⟨rfl, hb6⟩
          · obtain rfl : q = true := by simpa using hq2
            clear hq2
            by_cases h4 : y < 0
            · clear ht CZ
              go_enter Tryd.func4, Tryd.ntmps4
              go_wp2_with fail
              refine CA.mono ?_
              rintro e w1 ⟨rfl, hb1⟩
              go_wp2_with fail
              refine (CX _ hb1).mono ?_
              rintro e w2 ⟨rfl, hb2⟩
              go_wp2_with fail
              refine (CX' _ hb2).mono ?_
              rintro e w3 ⟨rfl, hb3⟩
              go_wp2_with fail
              refine (CR _ hb3).mono ?_
              rintro e w4 ⟨rfl, hb4⟩
              go_wp2_with fail
              refine (CX _ hb4).mono ?_
              rintro e w5 ⟨rfl, hb5⟩
              go_wp2_with fail
              refine (CX _ hb5).mono ?_
              rintro e w6 ⟨rfl, hb6⟩
              go_wp2_with fail
              refine (CY _ hb6).mono ?_
              rintro e w7 ⟨rfl, hb7⟩
              go_wp2_with fail
              go_ret
              exact ⟨rfl, hb7⟩
            · have h5 : 0 ≤ z := ht (by omega) (by omega)
              clear ht
              go_enter Tryd.func4, Tryd.ntmps4
              go_wp2_with fail
              refine CA.mono ?_
              rintro e w1 ⟨rfl, hb1⟩
              go_wp2_with fail
              refine (CX _ hb1).mono ?_
              rintro e w2 ⟨rfl, hb2⟩
              go_wp2_with fail
              refine (CX' _ hb2).mono ?_
              rintro e w3 ⟨rfl, hb3⟩
              go_wp2_with fail
              refine (CR _ hb3).mono ?_
              rintro e w4 ⟨rfl, hb4⟩
              go_wp2_with fail
              refine (CX _ hb4).mono ?_
              rintro e w5 ⟨rfl, hb5⟩
              go_wp2_with fail
              refine (CX _ hb5).mono ?_
              rintro e w6 ⟨rfl, hb6⟩
              go_wp2_with fail
              refine (CY _ hb6).mono ?_
              rintro e w7 ⟨rfl, hb7⟩
              go_wp2_with fail
              refine (CZ _ hb7).mono ?_
              rintro e w8 ⟨rfl, hb8⟩
              go_wp2_with fail
              go_ret
              exact ⟨rfl, hb8⟩
          · obtain rfl : q = false := by simpa using hq2
            clear hq2
            by_cases h4 : y < 0
            · clear ht CZ
              go_enter Tryd.func4, Tryd.ntmps4
              go_wp2_with fail
              refine CA.mono ?_
              rintro e w1 ⟨rfl, hb1⟩
              go_wp2_with fail
              refine (CX _ hb1).mono ?_
              rintro e w2 ⟨rfl, hb2⟩
              go_wp2_with fail
              refine (CX' _ hb2).mono ?_
              rintro e w3 ⟨rfl, hb3⟩
              go_wp2_with fail
              refine (CR _ hb3).mono ?_
              rintro e w4 ⟨rfl, hb4⟩
              go_wp2_with fail
              refine (CX _ hb4).mono ?_
              rintro e w5 ⟨rfl, hb5⟩
              go_wp2_with fail
              refine (CX _ hb5).mono ?_
              rintro e w6 ⟨rfl, hb6⟩
              go_wp2_with fail
              refine (CY _ hb6).mono ?_
              rintro e w7 ⟨rfl, hb7⟩
              go_wp2_with fail
              go_ret
              exact ⟨rfl, hb7⟩
            · have h5 : 0 ≤ z := ht (by omega) (by omega)
              clear ht
              go_enter Tryd.func4, Tryd.ntmps4
              go_wp2_with fail
              refine CA.mono ?_
              rintro e w1 ⟨rfl, hb1⟩
              go_wp2_with fail
              refine (CX _ hb1).mono ?_
              rintro e w2 ⟨rfl, hb2⟩
              go_wp2_with fail
              refine (CX' _ hb2).mono ?_
              rintro e w3 ⟨rfl, hb3⟩
              go_wp2_with fail
              refine (CR _ hb3).mono ?_
              rintro e w4 ⟨rfl, hb4⟩
              go_wp2_with fail
              refine (CX _ hb4).mono ?_
              rintro e w5 ⟨rfl, hb5⟩
              go_wp2_with fail
              refine (CX _ hb5).mono ?_
              rintro e w6 ⟨rfl, hb6⟩
              go_wp2_with fail
              refine (CY _ hb6).mono ?_
              rintro e w7 ⟨rfl, hb7⟩
              go_wp2_with fail
              refine (CZ _ hb7).mono ?_
              rintro e w8 ⟨rfl, hb8⟩
              go_wp2_with fail
              go_ret
              exact ⟨rfl, hb8⟩
      · have hn : ¬ (c.size : Int) ≤ 40 := by omega
        have CA := valive_any w hm
        go_enter Tryd.func4, Tryd.ntmps4
        go_wp2_with fail
        refine CA.mono ?_
        rintro e w1 ⟨rfl, hb1⟩
        go_wp2_with fail
        go_ret
        exact ⟨rfl, hb1⟩
    · have hn : ¬ (b.size : Int) ≤ 40 := by omega
      have CA := valive_any w hm
      go_enter Tryd.func4, Tryd.ntmps4
      go_wp2_with fail
      refine CA.mono ?_
      rintro e w1 ⟨rfl, hb1⟩
      go_wp2_with fail
      go_ret
      exact ⟨rfl, hb1⟩
  · have hn : ¬ (a.size : Int) ≤ 40 := by omega
    have CA := valive_any w hm
    go_enter Tryd.func4, Tryd.ntmps4
    go_wp2_with fail
    refine CA.mono ?_
    rintro e w1 ⟨rfl, hb1⟩
    go_wp2_with fail
    go_ret
    exact ⟨rfl, hb1⟩
end Go.Proofs.YtlcepgbliblilaaDoor
