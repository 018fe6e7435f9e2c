/- For the law JobsPlans: same texts are told to be the same. -/
import Derived.Test.YtnjabanjgckeoaaJ9
namespace Go.Proofs.Ytnjabanjgckeoaa
open Go.RowKit
open Go.ChangeMaps (setBlock)
set_option linter.unusedVariables false
set_option linter.unusedSimpArgs false
set_option maxRecDepth 100000

set_option maxHeartbeats 1000000 in
/-- The same texts are told to be the same. -/
theorem same15_eq (v1 v2 : Value) (ls : List Nm) (w : World) (h1 : Sts w v1 ls) (h2 : Sts w v2 ls) : Calls Try.prog 15 #[v1, v2] w fun e w' => e = .returned (.bool true) ∧ w = w' := by
  obtain ⟨a, c, rfl, _, h3, h4⟩ := h1
  obtain ⟨a2, c2, rfl, _, _, h6⟩ := h2
  have h63 : (ls.length : Int) ≤ 9223372036854775807 := by unfold maxLen at h3; omega
  have H4 := Lib.hid h4
  have H6 := Lib.hid h6
  clear h3 h4 h6
  go_enter Try.func15, Try.ntmps15
  go_wp2_with fail
  go_loopw [14] (fun i wr => ∃ k : Nat, k ≤ ls.length ∧ i = .int .i64 k ∧ w = wr) (fun i _ => ls.length - (intOf i).toNat)
  case atStart => exact ⟨0, Nat.zero_le _, rfl, rfl⟩
  case round =>
    obtain ⟨k, hk, rfl, rfl⟩ := hrel
    by_cases hlt : k < ls.length
    · obtain ⟨b, o, rfl, _, hc⟩ := H4.out (by omega)
      obtain ⟨b2, o2, rfl, _, hc2⟩ := H6.out (by omega)
      have c1 := hc k hlt
      have d1 := hc2 k hlt
      have kb := beq_nm ls[k] ls[k]
      rw [decide_eq_true rfl] at kb
      have hz : (k : Int) < (ls.length : Int) := by omega
      clear hc hc2
      generalize ls[k] = l at *
      generalize toB l = lb at *
      go_wp2_with fail
      go_roundw
      case rel => exact ⟨k + 1, by omega, by go_num, trivial⟩
      case measure => simp [intOf]; omega
    · have hz : (ls.length : Int) ≤ (k : Int) := by omega
      go_wp2_with fail
      go_ret
      exact ⟨rfl, rfl⟩
end Go.Proofs.Ytnjabanjgckeoaa
