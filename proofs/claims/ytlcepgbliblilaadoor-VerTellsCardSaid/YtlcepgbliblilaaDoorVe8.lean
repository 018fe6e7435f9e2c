/- VerFits: its walk. -/
import Derived.Test.YtlcepgbliblilaaDoorVe7
namespace Go.Proofs.YtlcepgbliblilaaDoor
open Go.RowKit
set_option linter.unusedVariables false
set_option linter.unusedSimpArgs false
set_option maxRecDepth 100000

set_option maxHeartbeats 8000000 in
theorem fits_law (a b : ByteArray) (w : World) (ha : a.size ≤ maxLen) (hb : b.size ≤ maxLen) (hm : VMx w) :
    Calls Tryd.prog 5 #[.string a, .string b] w fun e w' => e = .returned (.bool true) ∧ Below w.heap.size w w' := by
  unfold maxLen at ha hb
  by_cases h1 : a.size ≤ 40
  · by_cases h2 : b.size ≤ 40
    · have hs := cmpV_sign a.data.toList b.data.toList
      have CA := valive_any w hm
      obtain ⟨r, hr⟩ : ∃ r, rightV a.data.toList = r := ⟨_, rfl⟩
      obtain ⟨q, hq⟩ : ∃ r, rightV b.data.toList = r := ⟨_, rfl⟩
      have CR := vright_from hm a (by omega) r hr
      have CQ := vright_from hm b (by omega) q hq
      cases r with
      | false =>
        have F0 := vfits_from hm a 0 b (by omega) (by omega) false (by unfold fitsV; rw [hr]; rfl)
        have F1 := vfits_from hm a 1 b (by omega) (by omega) false (by unfold fitsV; rw [hr]; rfl)
        have F2 := vfits_from hm a 2 b (by omega) (by omega) false (by unfold fitsV; rw [hr]; rfl)
        have F3 := vfits_from hm a 3 b (by omega) (by omega) false (by unfold fitsV; rw [hr]; rfl)
        clear hs hr hq CQ hm
        go_enter Tryd.func5, Tryd.ntmps5
        go_wp2_with fail
        refine CA.mono ?_
        rintro e w1 ⟨rfl, hb1⟩
        go_wp2_with fail
        refine (CR _ hb1).mono ?_
        rintro e w2 ⟨rfl, hb2⟩
        go_wp2_with fail
        refine (CR _ hb2).mono ?_
        rintro e w3 ⟨rfl, hb3⟩
        go_wp2_with fail
        refine (F0 _ hb3).mono ?_
        rintro e w4 ⟨rfl, hb4⟩
        go_wp2_with fail
        refine (F1 _ hb4).mono ?_
        rintro e w5 ⟨rfl, hb5⟩
        go_wp2_with fail
        refine (F2 _ hb5).mono ?_
        rintro e w6 ⟨rfl, hb6⟩
        go_wp2_with fail
        refine (F3 _ hb6).mono ?_
        rintro e w7 ⟨rfl, hb7⟩
        go_wp2_with fail
        go_ret
        exact ⟨rfl, hb7⟩
      | true =>
        cases q with
        | false =>
          clear hs hr hq hm
          go_enter Tryd.func5, Tryd.ntmps5
          go_wp2_with fail
          refine CA.mono ?_
          rintro e w1 ⟨rfl, hb1⟩
          go_wp2_with fail
          refine (CR _ hb1).mono ?_
          rintro e w2 ⟨rfl, hb2⟩
          go_wp2_with fail
          refine (CQ _ hb2).mono ?_
          rintro e w3 ⟨rfl, hb3⟩
          go_wp2_with fail
          refine (CR _ hb3).mono ?_
          rintro e w4 ⟨rfl, hb4⟩
          go_wp2_with fail
          go_ret
          exact ⟨rfl, hb4⟩
        | true =>
          have hx' := cmpV_anti b.data.toList a.data.toList
          rcases hs with hx | hx | hx
          · rw [hx] at hx'
            have F0 := vfits_from hm a 0 b (by omega) (by omega) true (by unfold fitsV; rw [hr, hx]; rfl)
            have F1 := vfits_from hm a 1 b (by omega) (by omega) false (by unfold fitsV; rw [hr, hx]; rfl)
            have F2 := vfits_from hm a 2 b (by omega) (by omega) false (by unfold fitsV; rw [hr, hx]; rfl)
            have F3 := vfits_from hm a 3 b (by omega) (by omega) true (by unfold fitsV; rw [hr, hx]; rfl)
            have F4 := vfits_from hm a 4 b (by omega) (by omega) false (by unfold fitsV; rw [hr, hx]; rfl)
            have G1 := vfits_from hm b 1 a (by omega) (by omega) true (by unfold fitsV; rw [hq, hx']; rfl)
            clear hx hx' hr hq hm
            go_enter Tryd.func5, Tryd.ntmps5
            go_wp2_with fail
            refine CA.mono ?_
            rintro e w1 ⟨rfl, hb1⟩
            go_wp2_with fail
            refine (CR _ hb1).mono ?_
            rintro e w2 ⟨rfl, hb2⟩
            go_wp2_with fail
            refine (CQ _ hb2).mono ?_
            rintro e w3 ⟨rfl, hb3⟩
            go_wp2_with fail
            refine (F3 _ hb3).mono ?_
            rintro e w4 ⟨rfl, hb4⟩
            go_wp2_with fail
            refine (F1 _ hb4).mono ?_
            rintro e w5 ⟨rfl, hb5⟩
            go_wp2_with fail
            refine (F2 _ hb5).mono ?_
            rintro e w6 ⟨rfl, hb6⟩
            go_wp2_with fail
            refine (F1 _ hb6).mono ?_
            rintro e w7 ⟨rfl, hb7⟩
            go_wp2_with fail
            refine (F0 _ hb7).mono ?_
            rintro e w8 ⟨rfl, hb8⟩
            go_wp2_with fail
            refine (F4 _ hb8).mono ?_
            rintro e w9 ⟨rfl, hb9⟩
            go_wp2_with fail
            go_ret
            exact ⟨rfl, hb9⟩
          · rw [hx] at hx'
            have F0 := vfits_from hm a 0 b (by omega) (by omega) true (by unfold fitsV; rw [hr, hx]; rfl)
            have F1 := vfits_from hm a 1 b (by omega) (by omega) true (by unfold fitsV; rw [hr, hx]; rfl)
            have F2 := vfits_from hm a 2 b (by omega) (by omega) true (by unfold fitsV; rw [hr, hx]; rfl)
            have F3 := vfits_from hm a 3 b (by omega) (by omega) false (by unfold fitsV; rw [hr, hx]; rfl)
            have F4 := vfits_from hm a 4 b (by omega) (by omega) false (by unfold fitsV; rw [hr, hx]; rfl)
            have G1 := vfits_from hm b 1 a (by omega) (by omega) true (by unfold fitsV; rw [hq, hx']; rfl)
            clear hx hx' hr hq hm
            go_enter Tryd.func5, Tryd.ntmps5
            go_wp2_with fail
            refine CA.mono ?_
            rintro e w1 ⟨rfl, hb1⟩
            go_wp2_with fail
            refine (CR _ hb1).mono ?_
            rintro e w2 ⟨rfl, hb2⟩
            go_wp2_with fail
            refine (CQ _ hb2).mono ?_
            rintro e w3 ⟨rfl, hb3⟩
            go_wp2_with fail
            refine (F3 _ hb3).mono ?_
            rintro e w4 ⟨rfl, hb4⟩
            go_wp2_with fail
            refine (F1 _ hb4).mono ?_
            rintro e w5 ⟨rfl, hb5⟩
            go_wp2_with fail
            refine (F2 _ hb5).mono ?_
            rintro e w6 ⟨rfl, hb6⟩
            go_wp2_with fail
            refine (F1 _ hb6).mono ?_
            rintro e w7 ⟨rfl, hb7⟩
            go_wp2_with fail
            refine (G1 _ hb7).mono ?_
            rintro e w8 ⟨rfl, hb8⟩
            go_wp2_with fail
            refine (F0 _ hb8).mono ?_
            rintro e w9 ⟨rfl, hb9⟩
            go_wp2_with fail
            refine (F4 _ hb9).mono ?_
            rintro e w10 ⟨rfl, hb10⟩
            go_wp2_with fail
            go_ret
            exact ⟨rfl, hb10⟩
          · rw [hx] at hx'
            have F0 := vfits_from hm a 0 b (by omega) (by omega) true (by unfold fitsV; rw [hr, hx]; rfl)
            have F1 := vfits_from hm a 1 b (by omega) (by omega) true (by unfold fitsV; rw [hr, hx]; rfl)
            have F2 := vfits_from hm a 2 b (by omega) (by omega) false (by unfold fitsV; rw [hr, hx]; rfl)
            have F3 := vfits_from hm a 3 b (by omega) (by omega) false (by unfold fitsV; rw [hr, hx]; rfl)
            have F4 := vfits_from hm a 4 b (by omega) (by omega) false (by unfold fitsV; rw [hr, hx]; rfl)
            have G1 := vfits_from hm b 1 a (by omega) (by omega) false (by unfold fitsV; rw [hq, hx']; rfl)
            clear hx hx' hr hq hm
            go_enter Tryd.func5, Tryd.ntmps5
            go_wp2_with fail
            refine CA.mono ?_
            rintro e w1 ⟨rfl, hb1⟩
            go_wp2_with fail
            refine (CR _ hb1).mono ?_
            rintro e w2 ⟨rfl, hb2⟩
            go_wp2_with fail
            refine (CQ _ hb2).mono ?_
            rintro e w3 ⟨rfl, hb3⟩
            go_wp2_with fail
            refine (F3 _ hb3).mono ?_
            rintro e w4 ⟨rfl, hb4⟩
            go_wp2_with fail
            refine (F1 _ hb4).mono ?_
            rintro e w5 ⟨rfl, hb5⟩
            go_wp2_with fail
            refine (F2 _ hb5).mono ?_
            rintro e w6 ⟨rfl, hb6⟩
            go_wp2_with fail
            refine (F1 _ hb6).mono ?_
            rintro e w7 ⟨rfl, hb7⟩
            go_wp2_with fail
            refine (G1 _ hb7).mono ?_
            rintro e w8 ⟨rfl, hb8⟩
            go_wp2_with fail
            refine (F0 _ hb8).mono ?_
            rintro e w9 ⟨rfl, hb9⟩
            go_wp2_with fail
            refine (F4 _ hb9).mono ?_
            rintro e w10 ⟨rfl, hb10⟩
            go_wp2_with fail
            go_ret
            exact ⟨rfl, hb10⟩
    · have hn : ¬ (b.size : Int) ≤ 40 := by omega
      have CA := valive_any w hm
      go_enter Tryd.func5, Tryd.ntmps5
      go_wp2_with fail
      refine CA.mono ?_
      rintro e w1 ⟨rfl, hb1⟩
      go_wp2_with fail
      go_ret
      exact ⟨rfl, hb1⟩
  · have hn : ¬ (a.size : Int) ≤ 40 := by omega
    have CA := valive_any w hm
    go_enter Tryd.func5, Tryd.ntmps5
    go_wp2_with fail
    refine CA.mono ?_
    rintro e w1 ⟨rfl, hb1⟩
    go_wp2_with fail
    go_ret
    exact ⟨rfl, hb1⟩
end Go.Proofs.YtlcepgbliblilaaDoor
