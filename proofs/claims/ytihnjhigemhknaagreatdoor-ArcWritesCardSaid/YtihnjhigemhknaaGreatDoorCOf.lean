/- 'crc.Of' of rows of bytes: the sum of all of them, one behind the other; it turns nothing. -/
import Derived.Test.YtihnjhigemhknaaGreatDoorCNext
import Derived.Lib.Hide
namespace Go.Proofs.YtihnjhigemhknaaGreatDoor
set_option linter.unusedVariables false
set_option linter.unusedSimpArgs false
open Go.RowKit

/-- A slice of bytes: these are its elements. -/
def IsBytes (w : World) (v : Value) (zs : List Int) : Prop :=
  ∃ (a : Option Addr) (cap : Nat), v = .slice a zs.length cap ∧ (zs.length ≤ cap ∧ cap ≤ 9223372036854775807 ∧ (a = none → cap = 0)) ∧ (zs ≠ [] → ∃ b off, a = some ⟨b, off, none⟩ ∧ ∀ j, j < zs.length → w.cell? ⟨b, off + j, none⟩ = some (.int .u8 (zs.getD j 0))) ∧ ∀ n ∈ zs, 0 ≤ n ∧ n < 256

theorem rest_take (s : BitVec 32) (zs : List Int) (k : Nat) (h : k < zs.length) : rest s (zs.take (k + 1)) = nextB (rest s (zs.take k)) zs[k] := by
  rw [List.take_add_one, List.getElem?_eq_getElem h]
  unfold rest
  rw [List.foldl_append]
  rfl

theorem take_rows (rs : List (Value × List Int)) (k : Nat) (h : k < rs.length) : rest ones (((rs.take (k + 1)).map (·.2)).flatten) = rest (rest ones (((rs.take k).map (·.2)).flatten)) rs[k].2 := by
  rw [List.take_add_one, List.getElem?_eq_getElem h]
  unfold rest
  rw [List.map_append, List.flatten_append, List.foldl_append]
  simp

set_option maxHeartbeats 800000 in
theorem of_any (R cap : Nat) (rs : List (Value × List Int)) (w : World) (hn : rs.length ≤ 1000) (hR : ∀ i (h : i < rs.length), w.cell? ⟨R, i, none⟩ = some rs[i].1 ∧ IsBytes w rs[i].1 rs[i].2) :
    Calls Tryz.prog 44 #[.slice (some ⟨R, 0, none⟩) rs.length cap] w fun e w' => e = .returned (.int .u32 ((crc ((rs.map (·.2)).flatten)).toNat : Int)) ∧ w = w' := by
  go_enter Tryz.func44, Tryz.ntmps44
  go_wp2
  go_loop [3, 10] (fun t i => ∃ k : Nat, k ≤ rs.length ∧ i = .int .i64 k ∧ t = .int .u32 ((rest ones (((rs.take k).map (·.2)).flatten)).toNat : Int)) (fun _ i => rs.length - (intOf i).toNat)
  case atStart => exact ⟨0, by omega, rfl, rfl⟩
  case round =>
    obtain ⟨k, hk, rfl, rfl⟩ := hrel
    by_cases hlt : k < rs.length
    · obtain ⟨hc, a, cp, hv, ⟨hl1, hl2, _⟩, hz, hwz⟩ := hR k hlt
      have hl : rs[k].2.length ≤ 9223372036854775807 := by omega
      clear hl1 hl2
      generalize hs0 : rest ones (((rs.take k).map (·.2)).flatten) = s0
      have Hs0 := Lib.hid hs0
      clear hs0
      rw [hv] at hc
      have Hv := Lib.hid hv
      clear hv hR
      generalize hzs : rs[k].2 = zs at *
      have Hzs := Lib.hid hzs
      clear hzs
      have hF : rest ones (((rs.take (k + 1)).map (·.2)).flatten) = rest s0 (zs.take zs.length) := by rw [take_rows rs k hlt, Hzs.out, Hs0.out, List.take_length]
      have HF := Lib.hid hF
      clear hF
      go_wp2
      go_loop [3, 16] (fun t i => ∃ j : Nat, j ≤ zs.length ∧ i = .int .i64 j ∧ t = .int .u32 ((rest s0 (zs.take j)).toNat : Int)) (fun _ i => zs.length - (intOf i).toNat)
      case atStart => exact ⟨0, by omega, rfl, rfl⟩
      case round =>
        obtain ⟨j, hj, rfl, rfl⟩ := hrel
        by_cases hlj : j < zs.length
        · obtain ⟨b, off, rfl, hcz⟩ := hz (by intro h; rw [h] at hlj; simp at hlj)
          have hb : 0 ≤ zs[j] ∧ zs[j] < 256 := hwz _ (List.getElem_mem hlj)
          obtain ⟨hb0, hb1⟩ := hb
          have hcj := hcz j hlj
          clear hcz hz hwz
          go_wp2_with (go_at_call 66; refine (next_any _ _ _ hb0 hb1).mono ?_; rintro e w' ⟨rfl, rfl⟩)
          go_round
          case rel => exact ⟨j + 1, by omega, by go_num, u32_congr (rest_take _ _ _ hlj).symm⟩
          case measure => simp [intOf]; omega
        · obtain rfl : j = zs.length := by omega
          go_wp2
          go_round
          case rel => exact ⟨k + 1, by omega, by go_num, u32_congr HF.out.symm⟩
          case measure => simp [intOf]; omega
    · obtain rfl : k = rs.length := by omega
      go_wp2
      go_ret
      exact ⟨congrArg Ending.returned ((congrArg (Value.int .u32) (not32 _)).trans (u32_congr rfl)), rfl⟩
end Go.Proofs.YtihnjhigemhknaaGreatDoor
