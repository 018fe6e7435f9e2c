/- The document's Fits; the walk of VerTells. -/
import Derived.Test.YtlcepgbliblilaaDoorVe12
namespace Go.Proofs.YtlcepgbliblilaaDoor
open Go.RowKit
set_option linter.unusedVariables false
set_option linter.unusedSimpArgs false
set_option maxRecDepth 100000

set_option maxHeartbeats 8000000 in
theorem reffits_any (s : ByteArray) (way : Int) (t : ByteArray) (w : World) (hs : s.size ≤ 1000) (ht : t.size ≤ 1000) : Calls Tryd.prog 12 #[.string s, .int .i64 way, .string t] w fun e w' => e = .returned (.bool (fitsV s.data.toList way t.data.toList)) ∧ Below w.heap.size w w' := by
  have HP := refparse_any s w hs
  have HQ := fun w1 => refcmp_any s t w1 hs ht
  have HF := Lib.hid (show fitsV s.data.toList way t.data.toList = (rightV s.data.toList && (decide (way = 0) || (decide (way = 1) && decide (0 ≤ cmpV s.data.toList t.data.toList)) || (decide (way = 2) && decide (cmpV s.data.toList t.data.toList = 0)) || (decide (way = 3) && decide (cmpV s.data.toList t.data.toList < 0)))) from rfl)
  generalize fitsV s.data.toList way t.data.toList = f at *
  generalize cmpV s.data.toList t.data.toList = c at *
  have HP2 : Calls Tryd.prog 7 #[.string s] w fun e w' => ∃ (a : Option Addr) (n cp : Nat) (r : Int), e = .returned (.tuple #[.slice a n cp, .int .i64 r, .bool (rightV s.data.toList)]) ∧ Below w.heap.size w w' := by
    refine HP.mono ?_
    rintro e w2 ⟨v, ns, r, rfl, hO, _⟩
    obtain ⟨a, cp, hv2, _, _⟩ := Own.sized (h := (show Own w w2 (⟨3, 1, v, ns.length, ns.map fun (n : Nat) => Value.int .i64 (n : Int)⟩ :: []) from hO))
    exact ⟨a, _, cp, r, by rw [hv2], hO.below⟩
  clear HP
  generalize hr : rightV s.data.toList = r at *
  clear hr
  cases r with
  | false =>
    obtain rfl : f = false := HF.out
    clear HF
    go_enter Tryd.func12, Tryd.ntmps12
    go_wp2_with fail
    refine HP2.mono ?_
    rintro e w2 ⟨a, n, cp, r, rfl, hb⟩
    go_wp2_with fail
    refine (HQ w2).mono ?_
    rintro e w3 ⟨rfl, hb3⟩
    have HB := Lib.hid (hb.trans (hb3.mono hb.size))
    clear hb hb3 HP2 HQ
    go_wp2_with fail
    go_ret
    exact ⟨rfl, HB.out⟩
  | true =>
    have hF2 : f = (decide (way = 0) || (decide (way = 1) && decide (0 ≤ c)) || (decide (way = 2) && decide (c = 0)) || (decide (way = 3) && decide (c < 0))) := by rw [HF.out, Bool.true_and]
    clear HF
    by_cases h0 : way = 0
    · subst h0
      obtain rfl : f = true := by rw [hF2]; simp
      clear hF2
      go_enter Tryd.func12, Tryd.ntmps12
      go_wp2_with fail
      refine HP2.mono ?_
      rintro e w2 ⟨a, n, cp, r, rfl, hb⟩
      go_wp2_with fail
      refine (HQ w2).mono ?_
      rintro e w3 ⟨rfl, hb3⟩
      have HB := Lib.hid (hb.trans (hb3.mono hb.size))
      clear hb hb3 HP2 HQ
      go_wp2_with fail
      go_ret
      exact ⟨rfl, HB.out⟩
    · by_cases h1 : way = 1
      · subst h1
        clear h0
        by_cases hc : 0 ≤ c
        · obtain rfl : f = true := by rw [hF2]; simp [hc]
          clear hF2
          go_enter Tryd.func12, Tryd.ntmps12
          go_wp2_with fail
          refine HP2.mono ?_
          rintro e w2 ⟨a, n, cp, r, rfl, hb⟩
          go_wp2_with fail
          refine (HQ w2).mono ?_
          rintro e w3 ⟨rfl, hb3⟩
          have HB := Lib.hid (hb.trans (hb3.mono hb.size))
          clear hb hb3 HP2 HQ
          go_wp2_with fail
          go_ret
          exact ⟨rfl, HB.out⟩
        · obtain rfl : f = false := by rw [hF2]; simp [hc]
          have hc2 : decide (0 ≤ c) = false := decide_eq_false hc
          clear hc
          clear hF2
          go_enter Tryd.func12, Tryd.ntmps12
          go_wp2_with fail
          refine HP2.mono ?_
          rintro e w2 ⟨a, n, cp, r, rfl, hb⟩
          go_wp2_with fail
          refine (HQ w2).mono ?_
          rintro e w3 ⟨rfl, hb3⟩
          have HB := Lib.hid (hb.trans (hb3.mono hb.size))
          clear hb hb3 HP2 HQ
          go_wp2_with fail
          go_ret
          exact ⟨rfl, HB.out⟩
      · by_cases h2 : way = 2
        · subst h2
          clear h0 h1
          by_cases hc : c = 0
          · subst hc
            obtain rfl : f = true := by rw [hF2]; simp
            clear hF2
            go_enter Tryd.func12, Tryd.ntmps12
            go_wp2_with fail
            refine HP2.mono ?_
            rintro e w2 ⟨a, n, cp, r, rfl, hb⟩
            go_wp2_with fail
            refine (HQ w2).mono ?_
            rintro e w3 ⟨rfl, hb3⟩
            have HB := Lib.hid (hb.trans (hb3.mono hb.size))
            clear hb hb3 HP2 HQ
            go_wp2_with fail
            go_ret
            exact ⟨rfl, HB.out⟩
          · obtain rfl : f = false := by rw [hF2]; simp [hc]
            have hc2 : (c == 0) = false := by simpa using hc
            clear hc
            clear hF2
            go_enter Tryd.func12, Tryd.ntmps12
            go_wp2_with fail
            refine HP2.mono ?_
            rintro e w2 ⟨a, n, cp, r, rfl, hb⟩
            go_wp2_with fail
            refine (HQ w2).mono ?_
            rintro e w3 ⟨rfl, hb3⟩
            have HB := Lib.hid (hb.trans (hb3.mono hb.size))
            clear hb hb3 HP2 HQ
            go_wp2_with fail
            go_ret
            exact ⟨rfl, HB.out⟩
        · by_cases h3 : way = 3
          · subst h3
            obtain rfl : f = decide (c < 0) := by rw [hF2]; simp
            clear h0 h1 h2
            clear hF2
            go_enter Tryd.func12, Tryd.ntmps12
            go_wp2_with fail
            refine HP2.mono ?_
            rintro e w2 ⟨a, n, cp, r, rfl, hb⟩
            go_wp2_with fail
            refine (HQ w2).mono ?_
            rintro e w3 ⟨rfl, hb3⟩
            have HB := Lib.hid (hb.trans (hb3.mono hb.size))
            clear hb hb3 HP2 HQ
            go_wp2_with fail
            go_ret
            exact ⟨rfl, HB.out⟩
          · obtain rfl : f = false := by rw [hF2]; simp [h0, h1, h2, h3]
            have g0 : (way == 0) = false := by simpa using h0
            have g1 : (way == 1) = false := by simpa using h1
            have g2 : (way == 2) = false := by simpa using h2
            have g3 : (way == 3) = false := by simpa using h3
            clear h0 h1 h2 h3
            clear hF2
            go_enter Tryd.func12, Tryd.ntmps12
            go_wp2_with fail
            refine HP2.mono ?_
            rintro e w2 ⟨a, n, cp, r, rfl, hb⟩
            go_wp2_with fail
            refine (HQ w2).mono ?_
            rintro e w3 ⟨rfl, hb3⟩
            have HB := Lib.hid (hb.trans (hb3.mono hb.size))
            clear hb hb3 HP2 HQ
            go_wp2_with fail
            go_ret
            exact ⟨rfl, HB.out⟩

set_option maxHeartbeats 8000000 in
theorem tells_law (a b : ByteArray) (way : Int) (w : World) (ha : a.size ≤ maxLen) (hb : b.size ≤ maxLen) (hm : VMx w) :
    Calls Tryd.prog 3 #[.string a, .string b, .int .i64 way] w fun e w' => e = .returned (.bool true) ∧ Below w.heap.size w w' := by
  unfold maxLen at ha hb
  have CA := valive_any w hm
  by_cases h1 : a.size ≤ 40
  · by_cases h2 : b.size ≤ 40
    · have HP2 : ∀ w1, Calls Tryd.prog 7 #[.string a] w1 fun e w' => ∃ (a1 : Option Addr) (n cp : Nat) (r : Int), e = .returned (.tuple #[.slice a1 n cp, .int .i64 r, .bool (rightV a.data.toList)]) ∧ Below w1.heap.size w1 w' := by
        intro w1
        refine (refparse_any a w1 (by omega)).mono ?_
        rintro e w2 ⟨v, ns, r, rfl, hO, _⟩
        obtain ⟨a1, cp, hv2, _, _⟩ := Own.sized (h := (show Own w1 w2 (⟨3, 1, v, ns.length, ns.map fun (n : Nat) => Value.int .i64 (n : Int)⟩ :: []) from hO))
        exact ⟨a1, _, cp, r, by rw [hv2], hO.below⟩
      obtain ⟨r, hr⟩ : ∃ r, rightV a.data.toList = r := ⟨_, rfl⟩
      obtain ⟨x, hx⟩ : ∃ r, cmpV a.data.toList b.data.toList = r := ⟨_, rfl⟩
      obtain ⟨f, hf⟩ : ∃ r, fitsV a.data.toList way b.data.toList = r := ⟨_, rfl⟩
      have CR := vright_from hm a (by omega) r hr
      have CX := vcmp_from hm a b (by omega) (by omega) x hx
      have CF := vfits_from hm a way b (by omega) (by omega) f hf
      have DX := fun w1 => refcmp_any a b w1 (by omega) (by omega)
      have DF := fun w1 => reffits_any a way b w1 (by omega) (by omega)
      simp only [hr] at HP2
      simp only [hx] at DX
      simp only [hf] at DF
      clear hr hx hf hm
      go_enter Tryd.func3, Tryd.ntmps3
      go_wp2_with fail
      refine CA.mono ?_
      rintro e w1 ⟨rfl, hb1⟩
      go_wp2_with fail
      refine (HP2 w1).mono ?_
      rintro e w2 ⟨a1, n, cp, rr, rfl, hb2⟩
      have hb2 := hb1.trans (hb2.mono hb1.size)
      go_wp2_with fail
      refine (CR _ hb2).mono ?_
      rintro e w3 ⟨rfl, hb3⟩
      go_wp2_with fail
      refine (CX _ hb3).mono ?_
      rintro e w4 ⟨rfl, hb4⟩
      go_wp2_with fail
      refine (DX w4).mono ?_
      rintro e w5 ⟨rfl, hb5⟩
      have hb5 := hb4.trans (hb5.mono hb4.size)
      go_wp2_with fail
      refine (CF _ hb5).mono ?_
      rintro e w6 ⟨rfl, hb6⟩
      go_wp2_with fail
      refine (DF w6).mono ?_
      rintro e w7 ⟨rfl, hb7⟩
      have hb7 := hb6.trans (hb7.mono hb6.size)
      go_wp2_with fail
      go_ret
      exact ⟨rfl, hb7⟩
    · have hn : ¬ (b.size : Int) ≤ 40 := by omega
      go_enter Tryd.func3, Tryd.ntmps3
      go_wp2_with fail
      refine CA.mono ?_
      rintro e w1 ⟨rfl, hb1⟩
      go_wp2_with fail
      go_ret
      exact ⟨rfl, hb1⟩
  · have hn : ¬ (a.size : Int) ≤ 40 := by omega
    go_enter Tryd.func3, Tryd.ntmps3
    go_wp2_with fail
    refine CA.mono ?_
    rintro e w1 ⟨rfl, hb1⟩
    go_wp2_with fail
    go_ret
    exact ⟨rfl, hb1⟩
end Go.Proofs.YtlcepgbliblilaaDoor
