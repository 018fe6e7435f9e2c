/- The document's example: alive. -/
import Derived.Test.YtamkfadammlhbaaGreatDoorTree34
namespace Go.Proofs.YtamkfadammlhbaaGreatDoor
open Go.RowKit
open Go.ChangeMaps (setBlock)
set_option linter.unusedVariables false
set_option linter.unusedSimpArgs false
set_option maxRecDepth 100000

theorem Live.row {w0 w : World} {L : List Rw} {t : Nat} {E : Et} (h : Live w0 L t E w) {r : Rw} (hr : r ∈ L) : ∃ S, Own ⟨w0, S⟩ w [r] := by
  obtain ⟨S, L', T, h1, h2, _⟩ := h
  exact ⟨S, h1.only (h2 _ hr)⟩
theorem Live.below {w0 w : World} {L : List Rw} {t : Nat} {E : Et} (h : Live w0 L t E w) : Below w0.heap.size w0 w := by
  obtain ⟨S, L', T, h1, _⟩ := h
  exact h1.below
theorem perm_one {α : Type} {l : List α} {a : α} (h : l.Perm [a]) : l = [a] := List.perm_singleton.1 h
theorem two_str : strOfNums two = { data := #[116, 119, 111] } := rfl
theorem one_str : strOfNums one = { data := #[111, 110, 101] } := rfl
def root3 : ENd := ⟨true, [(toB [97], 2)], [], 0⟩
set_option maxHeartbeats 4000000 in
theorem alive_any (w : World) (hm : Mx w) : Calls Tryz.prog 7 #[] w fun e w' => e = .returned (.bool true) ∧ Below w.heap.size w w' := by
  have hcs := conv_const
  have hnew := tnew_any (D := Pc []) (Own.start w) (Pc.nil []) 10 (by decide)
  go_enter Tryz.func7, Tryz.ntmps7
  go_wp2_with fail
  refine hnew.mono ?_
  rintro e w1 ⟨S1, rfl, hO1, H1, _⟩
  have hL1 : Live w [] (w.heap.size + 3) (E0 10) w1 := ⟨S1, [], _, hO1, fun _ h => h, H1, new_rep _ 10⟩
  generalize w.heap.size + 3 = t at *
  have hdo1 := alive_do1 hm hL1
  clear hnew hO1 H1 hL1
  go_wp2_with fail
  refine hdo1.mono ?_
  rintro e w2 ⟨rfl, hL2⟩
  have hdo2 := alive_do2 hm hL2
  clear hdo1 hL2
  go_wp2_with fail
  refine hdo2.mono ?_
  rintro e w3 ⟨rfl, hL3⟩
  have hr1 := live_read hL3 hm (toB pAF) (by decide) (f := ⟨false, [], two, 1⟩) (by rfl) rfl (by decide)
  clear hdo2 hL3
  go_wp2_with fail
  refine hr1.mono ?_
  rintro e w4 ⟨v4, rfl, hL4⟩
  obtain ⟨_, ho4⟩ := hL4.row (List.mem_cons_self ..)
  obtain ⟨a4, c4, rfl, _, _⟩ := Own.sized (h := (show Own _ w4 (⟨5, 1, v4, two.length, bs two⟩ :: []) from ho4))
  have hr2 := live_read hL4 hm (toB pG) (by decide) (f := ⟨false, [], one, 1⟩) (by rfl) rfl (by decide)
  clear hr1 hL4 ho4
  go_wp2_with fail
  refine hr2.mono ?_
  rintro e w5 ⟨v5, rfl, hL5⟩
  obtain ⟨_, ho5⟩ := hL5.row (List.mem_cons_self ..)
  obtain ⟨a5, c5, rfl, _, _⟩ := Own.sized (h := (show Own _ w5 (⟨5, 1, v5, one.length, bs one⟩ :: []) from ho5))
  have hdo3 := alive_do3 hm hL5
  clear hr2 hL5 ho5
  go_wp2_with fail
  refine hdo3.mono ?_
  rintro e w6 ⟨rfl, hL6⟩
  have hli := live_list hL6 hm (toB [47]) (by decide) (f := root3) (by rfl) rfl (by decide) (fun p hp => by
    have : p = (toB [97], 2) := by simpa [root3] using hp
    subst this
    decide) (by decide)
  clear hdo3 hL6
  go_wp2_with fail
  refine hli.mono ?_
  rintro e w7 ⟨v7, ss, rfl, hss, hL7⟩
  have hss1 : ss = [[97]] := perm_one hss
  subst hss1
  clear hli hss
  have hsrt : ([[97]] : List (List UInt8)).mergeSort (fun x y => decide (x ≤ y)) = [[97]] := by simp
  rw [hsrt] at hL7
  obtain ⟨_, ho7⟩ := hL7.row (List.mem_cons_self ..)
  obtain ⟨g7, c7, rfl, _, _, _, _⟩ := Own.form (h := (show Own _ w7 (⟨9, 1, v7, 1, [encStr [97]]⟩ :: []) from ho7)) (by decide)
  have cv4 := (hL7.by (v := .slice a4 two.length c4) (zs := two) (List.mem_cons_of_mem _ (List.mem_cons_of_mem _ (List.mem_cons_self ..))) two_byts).toStr
  have cv5 := (hL7.by (v := .slice a5 one.length c5) (zs := one) (List.mem_cons_of_mem _ (List.mem_cons_self ..)) one_byts).toStr
  rw [two_str] at cv4
  rw [one_str] at cv5
  have hlo := live_loose hL7 (by decide)
  have HL7 := Lib.hid hL7
  clear ho7 hL7 hsrt
  go_wp2_with fail
  refine hlo.mono ?_
  rintro e w8 ⟨v8, zs, rfl, hz, hL8⟩
  have hz3 : zs = [3] := perm_one (by rw [show looseE EA3.nodes = [3] by rfl] at hz; exact hz)
  subst hz3
  rw [show ([3] : List Int).mergeSort (fun x y => decide (x ≤ y)) = [3] by simp] at hL8
  obtain ⟨_, ho8⟩ := hL8.row (List.mem_cons_self ..)
  obtain ⟨a8, c8, rfl, _, _⟩ := Own.sized (h := (show Own _ w8 (⟨3, 1, v8, 1, [.int .i64 3]⟩ :: []) from ho8))
  have hus := live_used hL8 (by decide)
  rw [show (sumE EA3.nodes : Nat) = 6 by decide] at hus
  clear hlo hL8 ho8 hz cv4 cv5
  go_wp2_with fail
  refine hus.mono ?_
  rintro e w9 ⟨rfl, hL9⟩
  have hno := live_nodes hL9
  rw [show (EA3.nodes.length : Int) = 4 by decide] at hno
  have hdi : Calls Tryz.prog 27 #[.pointer (some ⟨t, 0, none⟩), .string (toB pA)] w9 (fun e w' => e = .returned (.bool true) ∧ Live w _ t EA3 w') := live_dir hL9 hm (toB pA) (by decide)
  obtain ⟨_, ho9⟩ := hL9.row (r := rowT (.slice (some ⟨g7, 0, none⟩) 1 c7) [[97]]) (List.mem_cons_of_mem _ (List.mem_cons_self ..))
  have c0 : w9.cell? ⟨g7, 0, none⟩ = some (.string { data := #[97] }) := Own.cell (h := (show Own _ w9 (⟨9, 1, .slice (some ⟨g7, 0, none⟩) 1 c7, 1, [encStr [97]]⟩ :: []) from ho9)) 0 (by decide)
  clear hus hL9 ho9
  go_wp2_with (first
    | (go_at_call 24; refine hno.mono ?_; rintro e w' ⟨rfl, rfl⟩)
    | (go_at_call 27; refine hdi.mono ?_; rintro e w10 ⟨rfl, hL10⟩))
  go_ret
  exact ⟨rfl, hL10.below⟩
end Go.Proofs.YtamkfadammlhbaaGreatDoor
