/- 'Compare' and 'Fits' of package ver. -/
import Derived.Test.YtlcepgbliblilaaDoorVe4
import Derived.Deep.RegionHeld3
namespace Go.Proofs.YtlcepgbliblilaaDoor
open Go.RowKit
set_option linter.unusedVariables false
set_option linter.unusedSimpArgs false
set_option maxRecDepth 100000

set_option maxHeartbeats 2000000 in
theorem compare_any (s t : ByteArray) (w : World) (hs : s.size ≤ 1000000) (ht : t.size ≤ 1000000) (hm : VMx w) : Calls Tryd.prog 9 #[.string s, .string t] w fun e w' => e = .returned (.int .i64 (cmpV s.data.toList t.data.toList)) ∧ Below w.heap.size w w' := by
  have HP := fun w1 (h : VMx w1) => parse_any s w1 hs h
  have HQ := fun w1 (h : VMx w1) => parse_any t w1 ht h
  generalize s.data.toList = l at *
  generalize t.data.toList = m at *
  go_enter Tryd.func9, Tryd.ntmps9
  go_wp2_with fail
  refine (HP w hm).mono ?_
  rintro e w2 ⟨v, rfl, hO⟩
  obtain ⟨a, c, hv, _, _⟩ := Own.sized (h := (show Own w w2 (⟨3, 1, v, (numsV l).length, (numsV l).map fun (n : Nat) => Value.int .i64 (n : Int)⟩ :: []) from hO))
  subst hv
  have hm2 := VMx.own (W0 := w) hm hO
  go_wp2_with fail
  refine (HQ w2 hm2).mono ?_
  rintro e w3 ⟨v3, rfl, hO3⟩
  obtain ⟨a3, c3, hv, _, _⟩ := Own.sized (h := (show Own w2 w3 (⟨3, 1, v3, (numsV m).length, (numsV m).map fun (n : Nat) => Value.int .i64 (n : Int)⟩ :: []) from hO3))
  subst hv
  have HO3 := Lib.hid (hO.join hO3)
  have hW := (HO3.out.ver (.slice a (numsV l).length c) (revV l : Int)).ver (.slice a3 (numsV m).length c3) (revV m : Int)
  clear hO hO3 hm2
  go_wp2_with fail
  rw [World.size_alloc] at hW
  generalize hb5 : w3.heap.size = b5 at *
  clear hb5
  obtain ⟨W, hWd⟩ : ∃ W, (w3.alloc (Obj.cells #[Value.slice a (numsV l).length c, Value.int .i64 (revV l : Int)] 34)).alloc (Obj.cells #[Value.slice a3 (numsV m).length c3, Value.int .i64 (revV m : Int)] 34) = W := ⟨_, rfl⟩
  rw [hWd] at hW ⊢
  clear hWd
  obtain ⟨q1, q2, _, _, _⟩ := ver_cells hW (g := b5) (v := .slice a (numsV l).length c) (r := (revV l : Int)) (by simp)
  obtain ⟨r1, r2, _, _, _⟩ := ver_cells hW (g := b5 + 1) (v := .slice a3 (numsV m).length c3) (r := (revV m : Int)) (by simp)
  have n1 : NatsAt W (.slice a (numsV l).length c) (numsV l) := NatsAt.own hW (by simp [rowN])
  have n2 : NatsAt W (.slice a3 (numsV m).length c3) (numsV m) := NatsAt.own hW (by simp [rowN])
  have hc1 := cmps_any n1 n2 (numsV_le l).1 (numsV_le m).1
  have hc2 := cmps_any (w := W.drew) n1 n2 (numsV_le l).1 (numsV_le m).1
  have hc3 := cmpc_any (revV l) (revV m) W
  have hc4 := cmpc_any (revV l) (revV m) W.drew
  have hb := Lib.hid hW.below
  have hWx := hW.alloc (Obj.cells #[Value.int .i64 (cmpL (numsV l) (numsV m)), Value.int .i64 (cmpN (revV l) (revV m))] 3)
  obtain ⟨s1, s2, _, _, _⟩ := ver_cells hWx (g := b5) (v := .slice a (numsV l).length c) (r := (revV l : Int)) (by simp)
  obtain ⟨s3, s4, _, _, _⟩ := ver_cells hWx (g := b5 + 1) (v := .slice a3 (numsV m).length c3) (r := (revV m : Int)) (by simp)
  have HB := Lib.hid hWx.drew.below
  clear hWx
  have hV := Lib.hid (show (if cmpL (numsV l) (numsV m) = 0 then cmpN (revV l) (revV m) else cmpL (numsV l) (numsV m)) = cmpV l m from rfl)
  clear hW n1 n2 HO3 HP HQ
  generalize cmpL (numsV l) (numsV m) = x at *
  generalize cmpN (revV l) (revV m) = y at *
  generalize revV l = i at *
  generalize revV m = j at *
  generalize (numsV l).length = ll at *
  generalize (numsV m).length = ml at *
  obtain ⟨z, hz⟩ : ∃ z, cmpV l m = z := ⟨_, rfl⟩
  have Hz := Lib.hid hz
  rw [hz] at hV
  clear hz
  have hor1 := or_any x y W.heap.size (W.alloc (Obj.cells #[Value.int .i64 x, Value.int .i64 y] 3)) (by rw [World.cell?_alloc_new]; rfl) (by rw [World.cell?_alloc_new]; rfl)
  have hor2 := or_any x y W.heap.size (W.alloc (Obj.cells #[Value.int .i64 x, Value.int .i64 y] 3)).drew (by show (W.alloc (Obj.cells #[Value.int .i64 x, Value.int .i64 y] 3)).cell? _ = _; rw [World.cell?_alloc_new]; rfl) (by show (W.alloc (Obj.cells #[Value.int .i64 x, Value.int .i64 y] 3)).cell? _ = _; rw [World.cell?_alloc_new]; rfl)
  rw [hV.out] at hor1 hor2
  have S1 : W.cell? ⟨b5, 0, none⟩ = some (.slice a ll c) ∧ W.cell? ⟨b5, 1, none⟩ = some (.int .i64 (i : Int)) ∧ W.cell? ⟨b5 + 1, 0, none⟩ = some (.slice a3 ml c3) ∧ W.cell? ⟨b5 + 1, 1, none⟩ = some (.int .i64 (j : Int)) := ⟨q1, q2, r1, r2⟩
  have S2 : (W.alloc (Obj.cells #[Value.int .i64 x, Value.int .i64 y] 3)).cell? ⟨b5, 0, none⟩ = some (.slice a ll c) ∧ (W.alloc (Obj.cells #[Value.int .i64 x, Value.int .i64 y] 3)).cell? ⟨b5, 1, none⟩ = some (.int .i64 (i : Int)) ∧ (W.alloc (Obj.cells #[Value.int .i64 x, Value.int .i64 y] 3)).cell? ⟨b5 + 1, 0, none⟩ = some (.slice a3 ml c3) ∧ (W.alloc (Obj.cells #[Value.int .i64 x, Value.int .i64 y] 3)).cell? ⟨b5 + 1, 1, none⟩ = some (.int .i64 (j : Int)) := ⟨s1, s2, s3, s4⟩
  go_region_held3 (fun w' : World => w'.cell? ⟨b5, 0, none⟩ = some (.slice a ll c) ∧ w'.cell? ⟨b5, 1, none⟩ = some (.int .i64 (i : Int)) ∧ w'.cell? ⟨b5 + 1, 0, none⟩ = some (.slice a3 ml c3) ∧ w'.cell? ⟨b5 + 1, 1, none⟩ = some (.int .i64 (j : Int))) (first | exact S1 | exact S2) (first
    | (go_at_call 16; (first | refine hc1.mono ?_ | refine hc2.mono ?_); rintro e w' ⟨rfl, rfl⟩)
    | (go_at_call 17; (first | refine hc3.mono ?_ | refine hc4.mono ?_); rintro e w' ⟨rfl, rfl⟩)
    | (go_at_call 15; (first | refine hor1.mono ?_ | refine hor2.mono ?_); rintro e w' ⟨rfl, rfl⟩))
  go_wp2_with fail
  go_ret
  exact ⟨by rw [Hz.out]; rfl, HB.out⟩

/-- Whether a version is as it is asked for. -/
def fitsV (l : List UInt8) (way : Int) (m : List UInt8) : Bool := rightV l && (decide (way = 0) || (decide (way = 1) && decide (0 ≤ cmpV l m)) || (decide (way = 2) && decide (cmpV l m = 0)) || (decide (way = 3) && decide (cmpV l m < 0)))
set_option maxHeartbeats 2000000 in
theorem fits_any (s : ByteArray) (way : Int) (t : ByteArray) (w : World) (hs : s.size ≤ 1000000) (ht : t.size ≤ 1000000) (hm : VMx w) : Calls Tryd.prog 11 #[.string s, .int .i64 way, .string t] w fun e w' => e = .returned (.bool (fitsV s.data.toList way t.data.toList)) ∧ Below w.heap.size w w' := by
  have HP := vright_any s w hs hm
  have HQ := fun w1 (h : VMx w1) => compare_any s t w1 hs ht h
  have HF := Lib.hid (show fitsV s.data.toList way t.data.toList = (rightV s.data.toList && (decide (way = 0) || (decide (way = 1) && decide (0 ≤ cmpV s.data.toList t.data.toList)) || (decide (way = 2) && decide (cmpV s.data.toList t.data.toList = 0)) || (decide (way = 3) && decide (cmpV s.data.toList t.data.toList < 0)))) from rfl)
  generalize fitsV s.data.toList way t.data.toList = f at *
  generalize cmpV s.data.toList t.data.toList = c at *
  generalize hr : rightV s.data.toList = r at *
  clear hr
  cases r with
  | false =>
    have hf : f = false := HF.out
    clear HF HQ
    subst hf
    go_enter Tryd.func11, Tryd.ntmps11
    go_wp2_with fail
    refine HP.mono ?_
    rintro e w2 ⟨rfl, hb⟩
    go_wp2_with fail
    go_ret
    exact ⟨rfl, hb⟩
  | true =>
    have hF2 : f = (decide (way = 0) || (decide (way = 1) && decide (0 ≤ c)) || (decide (way = 2) && decide (c = 0)) || (decide (way = 3) && decide (c < 0))) := by rw [HF.out, Bool.true_and]
    clear HF
    have Hm := Lib.hid hm
    clear hm
    by_cases h0 : way = 0
    · subst h0
      obtain rfl : f = true := by rw [hF2]; simp
      clear hF2
      go_enter Tryd.func11, Tryd.ntmps11
      go_wp2_with fail
      refine HP.mono ?_
      rintro e w2 ⟨rfl, hb⟩
      go_wp2_with fail
      refine (HQ w2 (Hm.out.later hb)).mono ?_
      rintro e w3 ⟨rfl, hb3⟩
      have HB := Lib.hid (hb.trans (hb3.mono hb.size))
      clear hb hb3 HP HQ
      go_wp2_with fail
      go_ret
      exact ⟨rfl, HB.out⟩
    · by_cases h1 : way = 1
      · subst h1
        obtain rfl : f = decide (0 ≤ c) := by rw [hF2]; simp
        clear h0
        clear hF2
        go_enter Tryd.func11, Tryd.ntmps11
        go_wp2_with fail
        refine HP.mono ?_
        rintro e w2 ⟨rfl, hb⟩
        go_wp2_with fail
        refine (HQ w2 (Hm.out.later hb)).mono ?_
        rintro e w3 ⟨rfl, hb3⟩
        have HB := Lib.hid (hb.trans (hb3.mono hb.size))
        clear hb hb3 HP HQ
        go_wp2_with fail
        go_ret
        exact ⟨rfl, HB.out⟩
      · by_cases h2 : way = 2
        · subst h2
          obtain rfl : f = decide (c = 0) := by rw [hF2]; simp
          clear h0 h1
          clear hF2
          go_enter Tryd.func11, Tryd.ntmps11
          go_wp2_with fail
          refine HP.mono ?_
          rintro e w2 ⟨rfl, hb⟩
          go_wp2_with fail
          refine (HQ w2 (Hm.out.later hb)).mono ?_
          rintro e w3 ⟨rfl, hb3⟩
          have HB := Lib.hid (hb.trans (hb3.mono hb.size))
          clear hb hb3 HP HQ
          go_wp2_with fail
          go_ret
          exact ⟨by rw [show decide (c = 0) = (c == 0) from (by rw [Bool.eq_iff_iff]; simp)]; rfl, HB.out⟩
        · by_cases h3 : way = 3
          · subst h3
            obtain rfl : f = decide (c < 0) := by rw [hF2]; simp
            clear h0 h1 h2
            clear hF2
            go_enter Tryd.func11, Tryd.ntmps11
            go_wp2_with fail
            refine HP.mono ?_
            rintro e w2 ⟨rfl, hb⟩
            go_wp2_with fail
            refine (HQ w2 (Hm.out.later hb)).mono ?_
            rintro e w3 ⟨rfl, hb3⟩
            have HB := Lib.hid (hb.trans (hb3.mono hb.size))
            clear hb hb3 HP HQ
            go_wp2_with fail
            go_ret
            exact ⟨rfl, HB.out⟩
          · obtain rfl : f = false := by rw [hF2]; simp [h0, h1, h2, h3]
            clear hF2
            go_enter Tryd.func11, Tryd.ntmps11
            go_wp2_with fail
            refine HP.mono ?_
            rintro e w2 ⟨rfl, hb⟩
            go_wp2_with fail
            refine (HQ w2 (Hm.out.later hb)).mono ?_
            rintro e w3 ⟨rfl, hb3⟩
            have HB := Lib.hid (hb.trans (hb3.mono hb.size))
            clear hb hb3 HP HQ
            go_wp2_with fail
            go_ret
            exact ⟨rfl, HB.out⟩
end Go.Proofs.YtlcepgbliblilaaDoor
