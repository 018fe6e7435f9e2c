/- A package's files: one behind the other. -/
import Derived.Test.YtihnjhigemhknaaGreatDoorAr1
namespace Go.Proofs.YtihnjhigemhknaaGreatDoor
open Go.RowKit
set_option linter.unusedVariables false
set_option linter.unusedSimpArgs false
set_option maxRecDepth 100000

theorem within_box (f : ByteArray) (x : FileD) (b : Nat) (w : World) (hf : f.size ≤ 1000000) (hx : x.path.size ≤ 1000000) (hm : Mx w) (hc : w.cell? ⟨b, 0, none⟩ = some (.string f)) : Calls Tryz.prog 49 #[.agg #[.string x.path, .bool x.config, .slice x.a x.data.length x.c], .pointer (some ⟨b, 0, none⟩)] w fun e w' => e = .returned (.bool (withinL f.data.toList x.path.data.toList)) ∧ Below w.heap.size w w' := by
  have hW := fun w1 (h : Mx w1) => within_any f x.path w1 (by unfold maxLen; omega) (by unfold maxLen; omega) h
  have hlt := World.block_lt_of_cell? w _ hc
  have HB0 := Lib.hid (show Below w.heap.size w (w.alloc (Obj.cells #[Value.string x.path, .bool x.config, .slice x.a x.data.length x.c] 51)) from (Below.refl _ w).alloc (Nat.le_refl _) _)
  have hc2 : (w.alloc (Obj.cells #[Value.string x.path, .bool x.config, .slice x.a x.data.length x.c] 51)).cell? ⟨b, 0, none⟩ = some (.string f) := by rw [HB0.out.cell (p := ⟨b, 0, none⟩) hlt]; exact hc
  have Hm := Lib.hid (hm.later HB0.out)
  clear hm hc
  generalize withinL f.data.toList x.path.data.toList = q at *
  go_enter Tryz.func49, Tryz.ntmps49
  go_wp2_with fail
  refine (hW _ Hm.out).mono ?_
  rintro e w2 ⟨rfl, hb2⟩
  have HB2 := Lib.hid (HB0.out.trans (hb2.mono HB0.out.size))
  clear hb2 hW
  go_wp2_with fail
  go_ret
  exact ⟨rfl, HB2.out⟩

set_option maxHeartbeats 2000000 in
theorem file_idx (b : Nat) (a : Option Addr) (c : Nat) (xs : List FileD) (p : FileD → Bool) (w : World) (hS : SlcA w a 3 (xs.map fun x => x.cells)) (hn : xs.length ≤ 1000000)
    (hp : ∀ x ∈ xs, ∀ w', Below w.heap.size w w' → Calls Tryz.prog 49 #[.agg #[.string x.path, .bool x.config, .slice x.a x.data.length x.c], .pointer (some ⟨b, 0, none⟩)] w' fun e w'' => e = .returned (.bool (p x)) ∧ Below w'.heap.size w' w'') :
    Calls Tryz.prog 72 #[.slice a xs.length c, .func (.func 49) #[] #[.pointer (some ⟨b, 0, none⟩)]] w fun e w' => (∃ i : Int, e = .returned (.int .i64 i) ∧ decide (0 ≤ i) = xs.any p) ∧ Below w.heap.size w w' := by
  have Hst := Lib.hid (show ∃ k : Nat, (Value.int .i64 0) = .int .i64 k ∧ k ≤ xs.length ∧ (xs.take k).any p = false ∧ Below w.heap.size w w from ⟨0, rfl, Nat.zero_le _, rfl, Below.refl _ _⟩)
  have HS := Lib.hid hS
  clear hS
  go_enter Tryz.func72, Tryz.ntmps72
  go_wp2_with fail
  go_loopw [8] (fun i wr => ∃ k : Nat, i = .int .i64 k ∧ k ≤ xs.length ∧ (xs.take k).any p = false ∧ Below w.heap.size w wr) (fun i _ => xs.length - (intOf i).toNat)
  case atStart => exact Hst.out
  case round =>
    obtain ⟨k, rfl, hk, hany, hb⟩ := hrel
    clear Hst
    have Hany := Lib.hid hany
    have HB := Lib.hid hb
    clear hany hb
    by_cases hlt : k < xs.length
    · obtain ⟨g, o, rfl, hr⟩ := HS.out.later HB.out k (by rw [List.length_map]; exact hlt)
      rw [List.getElem_map] at hr
      have r0 := hr 0 _ rfl
      have r1 := hr 1 _ rfl
      have r2 := hr 2 _ rfl
      rw [Nat.add_zero] at r0
      have hcall := hp _ (List.getElem_mem hlt) wr HB.out
      have HT := Lib.hid (any_take_succA p xs k hlt)
      clear hr hp
      rcases Bool.eq_false_or_eq_true (p xs[k]) with hq | hq
      · rw [hq] at hcall
        have HA := Lib.hid (any_at p xs k hlt hq)
        clear hq HT
        generalize xs[k] = x at *
        go_wp2_with fail
        refine hcall.mono ?_
        rintro e w2 ⟨rfl, hb2⟩
        have HB2 := Lib.hid (HB.out.trans (hb2.mono HB.out.size))
        clear hb2 hcall
        go_wp2_with fail
        go_ret
        exact ⟨⟨k, rfl, by rw [HA.out]; exact decide_eq_true (by omega)⟩, HB2.out⟩
      · rw [hq] at hcall
        have HT2 := Lib.hid (show (xs.take (k + 1)).any p = false by rw [HT.out, Hany.out, hq]; rfl)
        clear hq HT
        generalize xs[k] = x at *
        go_wp2_with fail
        refine hcall.mono ?_
        rintro e w2 ⟨rfl, hb2⟩
        have HB2 := Lib.hid (HB.out.trans (hb2.mono HB.out.size))
        clear hb2 hcall
        go_wp2_with fail
        go_roundw
        case rel => exact ⟨k + 1, by go_num, hlt, HT2.out, HB2.out⟩
        case measure => simp [intOf]; omega
    · obtain rfl : k = xs.length := by omega
      clear hp
      go_wp2_with fail
      go_ret
      refine ⟨⟨-1, rfl, ?_⟩, HB.out⟩
      have := Hany.out
      rw [List.take_length] at this
      rw [this]; rfl
theorem file_has (b : Nat) (a : Option Addr) (c : Nat) (xs : List FileD) (p : FileD → Bool) (w : World) (hS : SlcA w a 3 (xs.map fun x => x.cells)) (hn : xs.length ≤ 1000000)
    (hp : ∀ x ∈ xs, ∀ w', Below w.heap.size w w' → Calls Tryz.prog 49 #[.agg #[.string x.path, .bool x.config, .slice x.a x.data.length x.c], .pointer (some ⟨b, 0, none⟩)] w' fun e w'' => e = .returned (.bool (p x)) ∧ Below w'.heap.size w' w'') :
    Calls Tryz.prog 52 #[.slice a xs.length c, .func (.func 49) #[] #[.pointer (some ⟨b, 0, none⟩)]] w fun e w' => e = .returned (.bool (xs.any p)) ∧ Below w.heap.size w w' := by
  have h := file_idx b a c xs p w hS hn hp
  clear hp hS
  generalize xs.any p = q at *
  go_enter Tryz.func52, Tryz.ntmps52
  go_wp2_with fail
  refine h.mono ?_
  rintro e w2 ⟨⟨i, rfl, hi⟩, hb2⟩
  have Hi := Lib.hid hi
  clear h hi
  go_wp2_with fail
  go_ret
  exact ⟨by rw [← Hi.out]; rfl, hb2⟩
end Go.Proofs.YtihnjhigemhknaaGreatDoor
