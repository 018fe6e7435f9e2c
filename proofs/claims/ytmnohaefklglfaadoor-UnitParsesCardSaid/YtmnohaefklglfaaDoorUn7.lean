/- The map of a unit's lists: the call. -/
import Derived.Test.YtmnohaefklglfaaDoorUn6
namespace Go.Proofs.YtmnohaefklglfaaDoor
open Go.RowKit
open Go.ChangeMaps (setBlock)
set_option linter.unusedVariables false
set_option linter.unusedSimpArgs false
set_option maxRecDepth 100000

set_option maxHeartbeats 4000000 in
theorem lists_any (w : World) (ub : Nat) : Calls Tryd.prog 15 #[.pointer (some ⟨ub, 0, none⟩)] w fun e w' => e = .returned (.map (some w.heap.size)) ∧ (∃ o, w'.heap[w.heap.size]? = some o ∧ MapU ub o) ∧ Below w.heap.size w w' := by
  have hmk := run_mkU
  go_enter Tryd.func15, Tryd.ntmps15
  go_wp2_with fail
  refine wp_region_any (by kernel_rfl) ?_
  change wpAny _ _ _ _ _ _ _ (World.drew _)
  refine wpAny_take (i := 1) (v := .pointer (some ⟨ub, 0, none⟩)) rfl (by kernel_rfl) (by kernel_rfl) (by kernel_rfl) (fun _ _ _ h => h) (Or.inl ⟨by rfl, fun w => ?_⟩) ?_
  · go_simp
  refine wpAny_take (i := 2) (v := .pointer (some ⟨ub, 0, none⟩)) rfl (by kernel_rfl) (by kernel_rfl) (by kernel_rfl) (fun _ _ _ h => h) (Or.inl ⟨by rfl, fun w => ?_⟩) ?_
  · go_simp
  refine wpAny_take (i := 3) (v := .pointer (some ⟨ub, 1, none⟩)) rfl (by kernel_rfl) (by kernel_rfl) (by kernel_rfl) (fun _ _ _ h => h) (Or.inl ⟨by rfl, fun w => ?_⟩) ?_
  · go_simp
  refine wpAny_take (i := 5) (v := .pointer (some ⟨ub, 0, none⟩)) rfl (by kernel_rfl) (by kernel_rfl) (by kernel_rfl) (fun _ _ _ h => h) (Or.inl ⟨by rfl, fun w => ?_⟩) ?_
  · go_simp
  refine wpAny_take (i := 6) (v := .pointer (some ⟨ub, 0, none⟩)) rfl (by kernel_rfl) (by kernel_rfl) (by kernel_rfl) (fun _ _ _ h => h) (Or.inl ⟨by rfl, fun w => ?_⟩) ?_
  · go_simp
  refine wpAny_take (i := 7) (v := .pointer (some ⟨ub, 2, none⟩)) rfl (by kernel_rfl) (by kernel_rfl) (by kernel_rfl) (fun _ _ _ h => h) (Or.inl ⟨by rfl, fun w => ?_⟩) ?_
  · go_simp
  refine wpAny_take (i := 9) (v := .pointer (some ⟨ub, 0, none⟩)) rfl (by kernel_rfl) (by kernel_rfl) (by kernel_rfl) (fun _ _ _ h => h) (Or.inl ⟨by rfl, fun w => ?_⟩) ?_
  · go_simp
  refine wpAny_take (i := 10) (v := .pointer (some ⟨ub, 0, none⟩)) rfl (by kernel_rfl) (by kernel_rfl) (by kernel_rfl) (fun _ _ _ h => h) (Or.inl ⟨by rfl, fun w => ?_⟩) ?_
  · go_simp
  refine wpAny_take (i := 11) (v := .pointer (some ⟨ub, 3, none⟩)) rfl (by kernel_rfl) (by kernel_rfl) (by kernel_rfl) (fun _ _ _ h => h) (Or.inl ⟨by rfl, fun w => ?_⟩) ?_
  · go_simp
  refine wpAny_take (i := 13) (v := .pointer (some ⟨ub, 0, none⟩)) rfl (by kernel_rfl) (by kernel_rfl) (by kernel_rfl) (fun _ _ _ h => h) (Or.inl ⟨by rfl, fun w => ?_⟩) ?_
  · go_simp
  refine wpAny_take (i := 14) (v := .pointer (some ⟨ub, 0, none⟩)) rfl (by kernel_rfl) (by kernel_rfl) (by kernel_rfl) (fun _ _ _ h => h) (Or.inl ⟨by rfl, fun w => ?_⟩) ?_
  · go_simp
  refine wpAny_take (i := 15) (v := .pointer (some ⟨ub, 4, none⟩)) rfl (by kernel_rfl) (by kernel_rfl) (by kernel_rfl) (fun _ _ _ h => h) (Or.inl ⟨by rfl, fun w => ?_⟩) ?_
  · go_simp
  refine wpAny_take (i := 17) (v := .pointer (some ⟨ub, 0, none⟩)) rfl (by kernel_rfl) (by kernel_rfl) (by kernel_rfl) (fun _ _ _ h => h) (Or.inl ⟨by rfl, fun w => ?_⟩) ?_
  · go_simp
  refine wpAny_take (i := 18) (v := .pointer (some ⟨ub, 0, none⟩)) rfl (by kernel_rfl) (by kernel_rfl) (by kernel_rfl) (fun _ _ _ h => h) (Or.inl ⟨by rfl, fun w => ?_⟩) ?_
  · go_simp
  refine wpAny_take (i := 19) (v := .pointer (some ⟨ub, 5, none⟩)) rfl (by kernel_rfl) (by kernel_rfl) (by kernel_rfl) (fun _ _ _ h => h) (Or.inl ⟨by rfl, fun w => ?_⟩) ?_
  · go_simp
  refine wpAny_take (i := 21) (v := .pointer (some ⟨ub, 0, none⟩)) rfl (by kernel_rfl) (by kernel_rfl) (by kernel_rfl) (fun _ _ _ h => h) (Or.inl ⟨by rfl, fun w => ?_⟩) ?_
  · go_simp
  refine wpAny_take (i := 22) (v := .pointer (some ⟨ub, 0, none⟩)) rfl (by kernel_rfl) (by kernel_rfl) (by kernel_rfl) (fun _ _ _ h => h) (Or.inl ⟨by rfl, fun w => ?_⟩) ?_
  · go_simp
  refine wpAny_take (i := 23) (v := .pointer (some ⟨ub, 6, none⟩)) rfl (by kernel_rfl) (by kernel_rfl) (by kernel_rfl) (fun _ _ _ h => h) (Or.inl ⟨by rfl, fun w => ?_⟩) ?_
  · go_simp
  refine wpAny_ready (rs := [0]) (by kernel_rfl) (by simp) ?_
  refine AllReady.cons rfl (fun K hK => ?_) AllReady.nil
  go_simp
  refine hK _ _ ?_
  clear hK K
  refine fill_any (ub := ub) (b := w.heap.size) (w0 := w) rfl rfl rfl rfl rfl rfl rfl (fun c w1 q0 q1 q2 q3 q4 q5 hI => ?_) 6 (fun _ => false) _ rfl ⟨((Below.refl _ w).drew).alloc (Nat.le_refl _) _, _, [], (MapKept.heap_alloc w.drew _).1, MapO.empty KS, fun x => ?_⟩
  · unfold doneF
    rw [q0, q1, q2, q3, q4, q5]
    have HP := Lib.hid (show (∃ o, w1.heap[w.heap.size]? = some o ∧ MapU ub o) ∧ Below w.heap.size w w1 from by
      obtain ⟨hb, o, m, h1, h2, h3⟩ := hI
      refine ⟨⟨o, h1, m, h2, fun x => ?_⟩, hb⟩
      rw [h3 x]
      cases hx : wordAt x with
      | none => rfl
      | some k =>
        have hk := (findW_lt hx).1
        have : c k = true := by
          match k, hk with
          | 0, _ => exact q0
          | 1, _ => exact q1
          | 2, _ => exact q2
          | 3, _ => exact q3
          | 4, _ => exact q4
          | 5, _ => exact q5
        simp [this])
    clear hI q0 q1 q2 q3 q4 q5
    refine wpAny_take (i := 25) (v := .map (some w.heap.size)) rfl (by kernel_rfl) (by kernel_rfl) (by kernel_rfl) (fun _ _ _ h => h) (Or.inl ⟨by rfl, fun w => BigFrame.run_move (.tmp 3) rfl w⟩) ?_
    refine wpAny_take (i := 26) (v := .map (some w.heap.size)) rfl (by kernel_rfl) (by kernel_rfl) (by kernel_rfl) (fun _ _ _ h => h) (Or.inl ⟨by rfl, fun w => BigFrame.run_assign (.tmp 22) rfl w⟩) ?_
    refine wpAny_done (by kernel_rfl) ?_ _
    go_wp2_with fail
    go_ret
    exact ⟨rfl, HP.out⟩
  · show (none : Option Value) = _
    cases wordAt x <;> rfl
end Go.Proofs.YtmnohaefklglfaaDoor
