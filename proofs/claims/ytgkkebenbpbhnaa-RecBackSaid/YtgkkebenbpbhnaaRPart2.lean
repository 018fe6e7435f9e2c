/- A piece of bytes, and one of pieces, as a part, and its bytes by hand. -/
import Derived.Test.YtgkkebenbpbhnaaRPart
import Derived.Deep.RegionHeld3
namespace Go.Proofs.Ytgkkebenbpbhnaa
open Go.RowKit
set_option linter.unusedVariables false
set_option linter.unusedSimpArgs false

theorem rowU_app {W0 w : World} {v : Value} {a b : List Int} {L : List Rw} (h : Own W0 w (⟨5, 1, v, a.length + b.length, bs a ++ bs b⟩ :: L)) : Own W0 w (rowU v (a ++ b) :: L) := by
  unfold rowU
  rw [bs_append, List.length_append]
  exact h
set_option maxHeartbeats 3200000 in
set_option maxRecDepth 100000 in
theorem part_bytes (w : World) (deep : Nat) (N : Int) (ba la : Option Addr) (bl bc ln lc : Nat) (ys : List Int) (hy : By w (.slice ba bl bc) ys) (hl : ys.length ≤ 1000) :
    Calls Try.prog 8 #[.agg #[.int .i64 1, .int .u32 N, .slice ba bl bc, .slice la ln lc], .int .i64 (deep : Int)] w (PartAt w (sizedL ys)) := by
  obtain ⟨i0, hi, hz0, hz1, hz2⟩ := info_parts info_u
  obtain rfl : bl = ys.length := by
    obtain ⟨a, c, hv⟩ := hy.form
    injection hv
  have HO := Lib.hid ((Own.start w).piece 1 N (.slice ba ys.length bc) la ln lc)
  have Hy := Lib.hid (hy.later (Below.alloc (Below.refl _ w) (Nat.le_refl _) (.cells #[.int .i64 1, .int .u32 N, .slice ba ys.length bc, .slice la ln lc] 29)))
  obtain ⟨H, hH⟩ : ∃ H, w.heap.size = H := ⟨_, rfl⟩
  rw [hH] at HO
  have hwr : IntKind.u32.wrap (ys.length : Int) = (ys.length : Int) := by rw [IntKind.wrap_u32]; omega
  have LY : ys.length < 4294967296 := by omega
  clear hy
  go_enter Try.func8, Try.ntmps8
  go_wp2_with fail
  generalize w.alloc (.cells #[.int .i64 1, .int .u32 N, .slice ba ys.length bc, .slice la ln lc] 29) = w2 at *
  obtain ⟨c0, c1, c2, c3, _, hlt⟩ := rowP_cells HO.out (List.mem_cons_self ..)
  clear hH
  go_region_held3 (fun w' => w'.cell? ⟨H, 2, none⟩ = some (.slice ba ys.length bc)) (first | assumption | go_keep) (first
    | (go_at_call 19; refine (raw_any _ ys _ ?_ LY).mono ?_; exact Hy.out; rintro e w3 ⟨v3, rfl, hO3⟩; obtain ⟨a3, k3, d3, rfl⟩ := hO3.form3; have HO3 := Lib.hid (show Own w w3 ([rowU (.slice a3 k3 d3) (sizedL ys)] ++ [rowP H 1 N (.slice ba ys.length bc) la ln lc]) from (by first | exact HO.out.drew.join hO3 | exact HO.out.join hO3)); have Hy3 := Lib.hid (show By w3 (.slice ba ys.length bc) ys from (by first | exact Hy.out.drew.later hO3.below | exact Hy.out.later hO3.below)); obtain ⟨_, _, b2, _, _, hlt3⟩ := rowP_cells HO3.out (by simp : rowP H 1 N (.slice ba ys.length bc) la ln lc ∈ _); clear hO3)
    | (go_at_call 26; refine (four_any (ys.length : Int) _ (by omega) (by omega)).mono ?_; rintro e w4 ⟨v4, rfl, hO4⟩; have Hy4 := Lib.hid (Hy3.out.later hO4.below); have HO4 := Lib.hid (HO3.out.join hO4); obtain ⟨_, _, q2, _, _, hlt4⟩ := rowP_cells HO4.out (by simp : rowP H 1 N (.slice ba ys.length bc) la ln lc ∈ _); obtain ⟨a4, k4, d4, rfl⟩ := HO4.out.form3; clear hO4)
    | (refine step_append_src (by rfl) (.tmp 25) (.tmp 27) 26 (by rfl) _ (le4 ys.length).length (bs (le4 ys.length)) (.slice ba ys.length bc) ys.length (bs ys) (by rfl) (by rfl) HO4.out i0 (.int .u8 0) 1 Try.underlying26 hi hz0 hz1 hz2 rfl (by decide) Hy4.out.1 (by rw [bs_length, Nat.mul_one]) (by unfold maxLen; rw [le4_length]; omega) (by rw [le4_length]; omega) ?_; intro v5 w5 hO5; obtain ⟨a5, d5, rfl, _, _⟩ := Own.sized (h := hO5); obtain ⟨_, _, z2, _, _, _⟩ := rowP_cells hO5 (by simp : rowP H 1 N (.slice ba ys.length bc) la ln lc ∈ _)))
  all_goals (have HO5 := Lib.hid (show Own w w5 (rowU _ (sizedL ys) :: ([rowU (.slice a3 k3 d3) (sizedL ys)] ++ [rowP H 1 N (.slice ba ys.length bc) la ln lc])) from rowU_app hO5))
  all_goals clear hO5
  all_goals go_wp2_with fail
  all_goals go_ret2
  all_goals exact ⟨_, _, rfl, (HO5.out.swap).of_mem (.cons_cons _ (.cons_cons _ (.cons _ (List.Sublist.refl _))))⟩
end Go.Proofs.Ytgkkebenbpbhnaa
