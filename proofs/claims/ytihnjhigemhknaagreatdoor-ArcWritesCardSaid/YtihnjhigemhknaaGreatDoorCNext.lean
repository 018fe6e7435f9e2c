/- The program's own steps of the sum: 'crc.next' and 'crc.Of' turn nothing, and answer the plain function's value. -/
import Derived.Test.YtihnjhigemhknaaGreatDoorProg
import Derived.Test.YtihnjhigemhknaaGreatDoorCMath
import Derived.WalkKit
import Derived.Outline
namespace Go.Proofs.YtihnjhigemhknaaGreatDoor
set_option linter.unusedVariables false
set_option linter.unusedSimpArgs false
open Go.RowKit
set_option maxHeartbeats 400000 in
theorem next_any (s : BitVec 32) (b : Int) (w : World) (hb0 : 0 ≤ b) (hb : b < 256) :
    Calls Tryz.prog 66 #[.int .u32 (s.toNat : Int), .int .u8 b] w fun e w' => e = .returned (.int .u32 ((nextB s b).toNat : Int)) ∧ w = w' := by
  go_enter Tryz.func66, Tryz.ntmps66
  go_wp2
  go_loop [0, 9] (fun t i => ∃ k : Nat, k ≤ 8 ∧ i = .int .i64 k ∧ t = .int .u32 ((nxs k (s ^^^ BitVec.ofInt 32 b)).toNat : Int)) (fun _ i => 8 - (intOf i).toNat)
  case atStart => exact ⟨0, by omega, rfl, by rw [start32 s b hb0 hb]; rfl⟩
  case round =>
    obtain ⟨k, hk, rfl, rfl⟩ := hrel
    by_cases hlt : k < 8
    · go_wp2
      go_round
      case rel => exact ⟨k + 1, by omega, by go_num, by rw [step32]; rfl⟩
      case measure => simp [intOf]; omega
    · obtain rfl : k = 8 := by omega
      go_wp2
      go_ret
      exact ⟨rfl, rfl⟩

end Go.Proofs.YtihnjhigemhknaaGreatDoor
