/- Read: long enough. -/
import Derived.Test.YtihnjhigemhknaaGreatDoorAr16
namespace Go.Proofs.YtihnjhigemhknaaGreatDoor
open Go.RowKit
set_option linter.unusedVariables false
set_option linter.unusedSimpArgs false
set_option maxRecDepth 100000

set_option maxHeartbeats 4000000 in
theorem read_sum (g o vc : Nat) (zs : List Int) (w : World) (h : By w (.slice (some ⟨g, o, none⟩) zs.length vc) zs) (m : Nat) (hz : zs.length = m + 4) (hne : le4 (crcI (zs.take m)) ≠ zs.drop m) :
    Calls Tryz.prog 12 #[.slice (some ⟨g, o, none⟩) zs.length vc] w fun e w' => e = .returned (.tuple #[(.agg #[.string ⟨#[]⟩, .string ⟨#[]⟩, .slice none 0 0, .slice none 0 0, .slice none 0 0, .slice none 0 0]), .int .i64 5]) ∧ Below w.heap.size w w' := by
  have hO0 := Lib.hid ((Own.start w).box6 (.string ⟨#[]⟩) (.string ⟨#[]⟩) (.slice none 0 0) (.slice none 0 0) (.slice none 0 0) (.slice none 0 0) 26)
  have hir := pkg_rowInfo
  have hB := Lib.hid h
  have hF := Lib.hid (By.frontA h m (by omega))
  have hR := Lib.hid (By.behindA h m (by omega))
  obtain ⟨_, _, va', vc', hv, q1, q2⟩ := h
  injection hv with e1 e2 e3
  subst e3
  have hbt := Lib.hid (le4_byts _ (crcI_le (zs.take m)).1 (crcI_le (zs.take m)).2)
  have hne' := Lib.hid hne
  unfold maxLen at q2
  obtain ⟨n, hn⟩ : ∃ n, zs.length = n := ⟨_, rfl⟩
  rw [hn] at hz q1 hR ⊢
  have hS := fun w1 (k : Below w.heap.size w w1) => sum_any (.slice (some ⟨g, o, none⟩) m vc) (zs.take m) w1 (hF.out.later k)
  have hz2 : ((n : Int) - 4) = (m : Int) := by omega
  have hz3 : (0 : Int) ≤ (m : Int) := by omega
  have hz4 : (m : Int) ≤ (n : Int) := by omega
  have hz5 : (m : Int) ≤ (vc : Int) := by omega
  have hz6 : (n : Int) ≤ (vc : Int) := by omega
  have hz7 : (m : Int) ≤ 9223372036854775807 := by omega
  have hz8 : ¬ ((m : Int) < 0) := by omega
  have Hz := Lib.hid hz
  clear hn q1 q2 hne hz e1 e2
  go_enter Tryz.func12, Tryz.ntmps12
  go_wp2_with fail
  go_region_held3 (fun _ => True) (exact trivial) (first
    | (go_at_call 18; refine (hS _ (by first | exact hO0.out.below | exact hO0.out.drew.below)).mono ?_; rintro e w3 ⟨v3, rfl, hO3⟩; obtain ⟨a3, n3, c3, rfl⟩ := hO3.formA; have hby3 := hO3.by hbt.out; have HO3 := Lib.hid (show Own w w3 ([rowU (.slice a3 n3 c3) (le4 (crcI (zs.take m)))] ++ [rowP6 w.heap.size zP6]) from by (first | exact hO0.out.join hO3 | exact hO0.out.drew.join hO3)); have hq := aequal_any w3 (.slice a3 n3 c3) (.slice (some ⟨g, o + m, none⟩) (n - m) (vc - m)) _ _ hby3 (hR.out.later HO3.out.below); rw [decide_eq_false hne'.out] at hq; clear hO3 hby3)
    | (go_at_call 32; refine hq.mono ?_; rintro e w4 ⟨rfl, rfl⟩))
  clear hq
  obtain ⟨⟨q0, q1, q2, q3, q4, q5⟩, ⟨f0, f1, f2, f3, f4, f5⟩, _⟩ := p6_cells HO3.out (H := w.heap.size) (a := .string ⟨#[]⟩) (b := .string ⟨#[]⟩) (c := .slice none 0 0) (d := .slice none 0 0) (e := .slice none 0 0) (f := .slice none 0 0) (by simp)
  go_wp2_with fail
  rw [← set6]
  have h5 : Own w _ _ := p6_set (A := [_]) (B := []) HO3.out rfl [.string ⟨#[]⟩, .string ⟨#[]⟩, .slice none 0 0, .slice none 0 0, .slice none 0 0, .slice none 0 0] rfl
  obtain ⟨_, _, k5⟩ := p6_cells h5 (List.mem_cons_self ..)
  refine bodyPost_ret (ret_cellT Tryz.results12 rfl rfl k5 Tryz.underlying26 rfl hir) rfl ?_
  exact ⟨rfl, h5.below⟩
end Go.Proofs.YtihnjhigemhknaaGreatDoor
