/- 'CrcSums': of bytes of whatever number the law returns true, and writes nothing that was there. -/
import Derived.Test.YtokokppifgoiaaaArg
namespace Go.Proofs.Ytokokppifgoiaaa
set_option linter.unusedVariables false
set_option linter.unusedSimpArgs false
open Go.RowKit
theorem sums_any (v : Value) (zs : List Int) (w : World) (hv : IsBytes w v zs) :
    Calls Try.prog 3 #[v] w fun e w' => e = .returned (.bool true) ∧ Below w.heap.size w w' := by
  obtain ⟨a, cap, rfl, hl, hz, hwz⟩ := id hv
  clear hl hz hwz
  by_cases hn : zs.length ≤ 300
  · go_enter Try.func3, Try.ntmps3
    go_wp2_with (go_at_call 6; refine (alive_any _).mono ?_; rintro e w1 ⟨rfl, hb1⟩)
    refine (of_one _ _ zs _ (World.cell?_alloc_new _ _ _ _) ((hv.below hb1).below ((Below.refl _ _).alloc (Nat.le_refl _) _))).mono ?_
    rintro e w2 ⟨rfl, rfl⟩
    go_wp2_with fail
    have hv2 := (hv.below hb1).below ((Below.refl w1.heap.size w1).alloc (Nat.le_refl _) (.cells #[.slice a zs.length cap] 22))
    refine (ref_any _ zs _ hv2 hn).mono ?_
    rintro e w3 ⟨rfl, hb3⟩
    go_wp2_with fail
    go_ret
    have hs := hb1.size
    have hb2 : Below w.heap.size w (w1.alloc (.cells #[.slice a zs.length cap] 22)) := hb1.alloc (by omega) _
    exact ⟨by simp, hb2.trans (hb3.mono (by simp; omega))⟩
  · have hn' : (300 : Int) < (zs.length : Int) := by omega
    go_enter Try.func3, Try.ntmps3
    go_wp2_with (go_at_call 6; refine (alive_any _).mono ?_; rintro e w1 ⟨rfl, hb1⟩)
    go_ret
    exact ⟨rfl, hb1⟩
end Go.Proofs.Ytokokppifgoiaaa
