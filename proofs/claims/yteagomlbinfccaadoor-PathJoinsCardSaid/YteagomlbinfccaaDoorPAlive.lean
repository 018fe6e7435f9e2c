/- The document's example of package path. -/
import Derived.Test.YteagomlbinfccaaDoorPRef2
namespace Go.Proofs.YteagomlbinfccaaDoor
open Go.RowKit
set_option linter.unusedVariables false
set_option linter.unusedSimpArgs false

theorem sts_nil (w : World) : Sts w (.slice none 0 0) [] := ⟨none, 0, rfl, Nat.le_refl _, by unfold maxLen; omega, fun h => absurd h (by simp)⟩
theorem sts_two (w : World) (a b : List UInt8) (T : TypeId) : Sts (w.alloc (.cells #[.string (toB a), .string (toB b)] T)) (.slice (some ⟨w.heap.size, 0, none⟩) 2 2) [a, b] := by
  refine ⟨_, 2, rfl, Nat.le_refl _, by unfold maxLen; omega, fun _ => ⟨w.heap.size, 0, rfl, by simp, fun j hj => ?_⟩⟩
  rw [Nat.zero_add, World.cell?_alloc_new]
  have hj2 : j < 2 := hj
  match j, hj2 with
  | 0, _ => rfl
  | 1, _ => rfl
set_option maxRecDepth 100000 in
set_option maxHeartbeats 4000000 in
theorem alive_any (w : World) (hm : Mx w) : Calls Tryd.prog 6 #[] w fun e w' => e = .returned (.bool true) ∧ Below w.heap.size w w' := by
  have n1 : namesL [47, 117, 115, 114, 47, 108, 105, 98] = [[117, 115, 114]] ++ [[108, 105, 98]] := by decide
  have o1 : okP [47, 117, 115, 114, 47, 108, 105, 98] = true := by decide
  have A1 : Calls Tryd.prog 7 #[.string ⟨#[47, 117, 115, 114, 47, 108, 105, 98]⟩] w (SplitPost w [47, 117, 115, 114, 47, 108, 105, 98]) := split_any ⟨#[47, 117, 115, 114, 47, 108, 105, 98]⟩ w (by decide) hm
  have A2 : ∀ w : World, Mx w → Calls Tryd.prog 13 #[.string ⟨#[47, 117, 115, 114, 47, 108, 105, 98]⟩] w fun e w' => e = .returned (.tuple #[.string ⟨#[47, 117, 115, 114]⟩, .string ⟨#[108, 105, 98]⟩, .bool true]) ∧ Below w.heap.size w w' := fun w hm => parent_yes ⟨#[47, 117, 115, 114, 47, 108, 105, 98]⟩ w (by decide) hm [[117, 115, 114]] [108, 105, 98] n1
  have A3 : ∀ w : World, Calls Tryd.prog 14 #[.slice (some ⟨w.heap.size, 0, none⟩) 2 2] (w.alloc (.cells #[.string ⟨#[97]⟩, .string ⟨#[98]⟩] 9)) fun e w' => e = .returned (.string ⟨#[47, 97, 47, 98]⟩) ∧ Below (w.alloc (.cells #[.string ⟨#[97]⟩, .string ⟨#[98]⟩] 9)).heap.size (w.alloc (.cells #[.string ⟨#[97]⟩, .string ⟨#[98]⟩] 9)) w' := fun w => join_any _ [[97], [98]] _ (sts_two w [97] [98] _) (by decide) (by decide)
  have A4 : ∀ w : World, Calls Tryd.prog 14 #[.slice none 0 0] w fun e w' => e = .returned (.string ⟨#[47]⟩) ∧ Below w.heap.size w w' := fun w => join_any _ [] w (sts_nil w) (by decide) (by decide)
  have A5 : ∀ w : World, Mx w → Calls Tryd.prog 10 #[.string ⟨#[47, 97]⟩] w fun e w' => e = .returned (.bool true) ∧ Below w.heap.size w w' := fun w hm => right_any ⟨#[47, 97]⟩ w (by decide) hm
  have A6 : ∀ w : World, Mx w → Calls Tryd.prog 10 #[.string ⟨#[47]⟩] w fun e w' => e = .returned (.bool false) ∧ Below w.heap.size w w' := fun w hm => right_any ⟨#[47]⟩ w (by decide) hm
  have A7 : ∀ w : World, Mx w → Calls Tryd.prog 16 #[.string ⟨#[47, 97, 47, 98]⟩, .string ⟨#[47, 97]⟩] w fun e w' => e = .returned (.bool true) ∧ Below w.heap.size w w' := fun w hm => within_any ⟨#[47, 97, 47, 98]⟩ ⟨#[47, 97]⟩ w (by decide) (by decide) hm
  have A8 : ∀ w : World, Mx w → Calls Tryd.prog 16 #[.string ⟨#[47, 97]⟩, .string ⟨#[47, 97]⟩] w fun e w' => e = .returned (.bool false) ∧ Below w.heap.size w w' := fun w hm => within_any ⟨#[47, 97]⟩ ⟨#[47, 97]⟩ w (by decide) (by decide) hm
  have A9 : ∀ w : World, Calls Tryd.prog 11 #[.string ⟨#[97, 46, 98]⟩] w fun e w' => e = .returned (.bool true) ∧ Below w.heap.size w w' := fun w => name_any ⟨#[97, 46, 98]⟩ w (by decide)
  have A10 : ∀ w : World, Calls Tryd.prog 11 #[.string ⟨#[46, 46]⟩] w fun e w' => e = .returned (.bool false) ∧ Below w.heap.size w w' := fun w => name_any ⟨#[46, 46]⟩ w (by decide)
  have N1 := Lib.hid n1
  have O1 := Lib.hid o1
  clear n1 o1
  go_enter Tryd.func6, Tryd.ntmps6
  go_wp2_with fail
  refine A1.mono ?_
  rintro e w1 ⟨v, rfl, hO⟩
  rw [N1.out] at hO
  rw [O1.out]
  obtain ⟨g, cap, rfl, hg1, hg2, hc1, hc2⟩ := hO.form (by decide)
  have hb1 := hO.below
  have c1 : w1.cell? ⟨g, 1, none⟩ = some (.string ⟨#[108, 105, 98]⟩) := hO.str 1 (by decide)
  go_wp2_with fail
  refine (A2 w1 (hm.later hb1)).mono ?_
  rintro e w2 ⟨rfl, hb2⟩
  have c2 : w2.cell? ⟨g, 1, none⟩ = some (.string ⟨#[108, 105, 98]⟩) := by rw [hb2.cell (p := ⟨g, 1, none⟩) hg2]; exact c1
  have HB := Lib.hid (hb1.trans (hb2.mono hb1.size))
  clear hO hb1 hb2 c1
  go_wp2_with fail
  refine (A3 _).mono ?_
  rintro e w3 ⟨rfl, hb3⟩
  have hb3 := HB.out.trans ((((Below.refl _ _).alloc (Nat.le_refl _) _).trans (hb3.mono (by simp))).mono HB.out.size)
  go_wp2_with fail
  refine (A4 _).mono ?_
  rintro e w4 ⟨rfl, hb4⟩
  have hb4 := hb3.trans (hb4.mono hb3.size)
  go_wp2_with fail
  refine (A5 _ (hm.later hb4)).mono ?_
  rintro e w5 ⟨rfl, hb5⟩
  have hb5 := hb4.trans (hb5.mono hb4.size)
  go_wp2_with fail
  refine (A6 _ (hm.later hb5)).mono ?_
  rintro e w6 ⟨rfl, hb6⟩
  have hb6 := hb5.trans (hb6.mono hb5.size)
  go_wp2_with fail
  refine (A7 _ (hm.later hb6)).mono ?_
  rintro e w7 ⟨rfl, hb7⟩
  have hb7 := hb6.trans (hb7.mono hb6.size)
  go_wp2_with fail
  refine (A8 _ (hm.later hb7)).mono ?_
  rintro e w8 ⟨rfl, hb8⟩
  have hb8 := hb7.trans (hb8.mono hb7.size)
  go_wp2_with fail
  refine (A9 _).mono ?_
  rintro e w9 ⟨rfl, hb9⟩
  have hb9 := hb8.trans (hb9.mono hb8.size)
  go_wp2_with fail
  refine (A10 _).mono ?_
  rintro e w10 ⟨rfl, hb10⟩
  have hb10 := hb9.trans (hb10.mono hb9.size)
  go_wp2_with fail
  go_ret
  exact ⟨rfl, hb10⟩
end Go.Proofs.YteagomlbinfccaaDoor
