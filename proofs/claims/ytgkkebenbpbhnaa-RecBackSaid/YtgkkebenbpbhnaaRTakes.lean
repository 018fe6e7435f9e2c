/- Does a reader take a piece? It does, where what the piece is as bytes comes next. -/
import Derived.Test.YtgkkebenbpbhnaaRPart3
namespace Go.Proofs.Ytgkkebenbpbhnaa
open Go.RowKit
set_option linter.unusedVariables false
set_option linter.unusedSimpArgs false

def TakesAt (W0 : World) (r : Nat) (L : List Rw) (R : List Int) (e : Ending) (w' : World) : Prop := ∃ v', e = .returned (.bool true) ∧ Own W0 w' (rowR r v' false :: L) ∧ Pc L v' R
theorem Own.second {W0 w : World} {p q : Rw} {L : List Rw} (h : Own W0 w (p :: q :: L)) : Own W0 w (p :: L) := h.swap.tail

theorem Pc.strip {L : List Rw} {x : Rw} {v : Value} {zs : List Int} (h : Pc (x :: L) v zs) (hx : x.size ≠ 1) : Pc L v zs := by
  obtain ⟨a, c, hv, h1, h2, hz, h3⟩ := h
  refine ⟨a, c, hv, h1, h2, hz, ?_⟩
  rcases h3 with h3 | ⟨g, o, ha, h3⟩
  · exact .inl h3
  · refine .inr ⟨g, o, ha, fun hne => ?_⟩
    obtain ⟨cap, ys, hm, h4⟩ := h3 hne
    rcases List.mem_cons.1 hm with e | hm
    · exact absurd (by rw [← e]; rfl) hx
    · exact ⟨cap, ys, hm, h4⟩
set_option maxHeartbeats 3200000 in
set_option maxRecDepth 100000 in
theorem takes_num (W0 w : World) (r : Nat) (v : Value) (L : List Rw) (deep : Nat) (k N : Int) (ba la : Option Addr) (bl bc ln lc : Nat) (R : List Int) (hd : deep ≤ 4) (h1 : k ≠ 1) (h2 : ¬ (k = 2 ∧ deep < 4)) (h0 : 0 ≤ N) (hN : N < 4294967296) (hO : Own W0 w (rowR r v false :: L)) (hp : Pc L v (le4 N ++ R)) :
    Calls Try.prog 12 #[.pointer (some ⟨r, 0, none⟩), .agg #[.int .i64 k, .int .u32 N, .slice ba bl bc, .slice la ln lc], .int .i64 (deep : Int)] w (TakesAt W0 r L R) := by
  have e1 : (k == 1) = false := by simpa using h1
  have HO := Lib.hid ((hO.piece k N (.slice ba bl bc) la ln lc).swap)
  have Hp := Lib.hid hp
  have Hn := Lib.hid (num4_le4 N h0 hN R)
  have Hdr := Lib.hid (show (le4 N ++ R).drop 4 = R from rfl)
  have Hlen := Lib.hid (show 4 ≤ (le4 N ++ R).length by rw [List.length_append, le4_length]; omega)
  obtain ⟨H, hH⟩ : ∃ H, w.heap.size = H := ⟨_, rfl⟩
  rw [hH] at HO
  have hwr : IntKind.i64.wrap N = N := IntWalk.i64_in _ (by omega)
  clear hO hp
  by_cases k2 : k = 2
  · have e2 : (k == 2) = true := by simpa using k2
    have hd4 : ¬ deep < 4 := fun h => h2 ⟨k2, h⟩
    clear k2 h1 h2
    go_enter Try.func12, Try.ntmps12
    go_wp2_with fail
    generalize w.alloc (.cells #[.int .i64 k, .int .u32 N, .slice ba bl bc, .slice la ln lc] 29) = w2 at *
    obtain ⟨c0, c1, c2, c3, _, hlt⟩ := rowP_cells HO.out (by simp : rowP H k N (.slice ba bl bc) la ln lc ∈ _)
    clear hH
    go_region_held3 (fun w' => w'.cell? ⟨H, 1, none⟩ = some (.int .u32 N)) (first | assumption | go_keep) (first
      | (go_at_call 15; refine (rnum_any W0 _ r v false _ _ 4294967295 (by first | exact HO.out.drew | exact HO.out) (Hp.out.cons _) ⟨Hlen.out, by rw [Hn.out]; omega⟩).mono ?_; rintro e w3 ⟨v3, rfl, hO3, hp3⟩; rw [Hn.out]; rw [Hdr.out] at hp3; have HO3 := Lib.hid hO3; have Hp3 := Lib.hid hp3; obtain ⟨_, z1, _, _, _, _⟩ := rowP_cells hO3 (by simp : rowP H k N (.slice ba bl bc) la ln lc ∈ _); clear hO3 hp3)
      | (go_at_call 16; refine (good_any W0 _ r _ false _ HO3.out).mono ?_; rintro e w4 ⟨rfl, rfl⟩))
    all_goals go_wp2_with fail
    all_goals go_ret
    all_goals exact ⟨_, rfl, HO3.out.second, Hp3.out.strip (by decide : (4 : Nat) ≠ 1)⟩
  · have e2 : (k == 2) = false := by simpa using k2
    clear k2 h1 h2
    go_enter Try.func12, Try.ntmps12
    go_wp2_with fail
    generalize w.alloc (.cells #[.int .i64 k, .int .u32 N, .slice ba bl bc, .slice la ln lc] 29) = w2 at *
    obtain ⟨c0, c1, c2, c3, _, hlt⟩ := rowP_cells HO.out (by simp : rowP H k N (.slice ba bl bc) la ln lc ∈ _)
    clear hH
    go_region_held3 (fun w' => w'.cell? ⟨H, 1, none⟩ = some (.int .u32 N)) (first | assumption | go_keep) (first
      | (go_at_call 15; refine (rnum_any W0 _ r v false _ _ 4294967295 (by first | exact HO.out.drew | exact HO.out) (Hp.out.cons _) ⟨Hlen.out, by rw [Hn.out]; omega⟩).mono ?_; rintro e w3 ⟨v3, rfl, hO3, hp3⟩; rw [Hn.out]; rw [Hdr.out] at hp3; have HO3 := Lib.hid hO3; have Hp3 := Lib.hid hp3; obtain ⟨_, z1, _, _, _, _⟩ := rowP_cells hO3 (by simp : rowP H k N (.slice ba bl bc) la ln lc ∈ _); clear hO3 hp3)
      | (go_at_call 16; refine (good_any W0 _ r _ false _ HO3.out).mono ?_; rintro e w4 ⟨rfl, rfl⟩))
    all_goals go_wp2_with fail
    all_goals go_ret
    all_goals exact ⟨_, rfl, HO3.out.second, Hp3.out.strip (by decide : (4 : Nat) ≠ 1)⟩

set_option maxHeartbeats 3200000 in
set_option maxRecDepth 100000 in
theorem takes_bytes (W0 w : World) (r : Nat) (v : Value) (L : List Rw) (deep : Nat) (N : Int) (ba la : Option Addr) (bl bc ln lc : Nat) (ys R : List Int) (hy : By W0 (.slice ba bl bc) ys) (hl : ys.length ≤ 1000) (hO : Own W0 w (rowR r v false :: L)) (hp : Pc L v (sizedL ys ++ R)) :
    Calls Try.prog 12 #[.pointer (some ⟨r, 0, none⟩), .agg #[.int .i64 1, .int .u32 N, .slice ba bl bc, .slice la ln lc], .int .i64 (deep : Int)] w (TakesAt W0 r L R) := by
  have HO := Lib.hid ((hO.piece 1 N (.slice ba bl bc) la ln lc).swap)
  have Hp := Lib.hid hp
  have Hy := Lib.hid hy
  have LY : ys.length < 4294967296 := by omega
  obtain ⟨H, hH⟩ : ∃ H, w.heap.size = H := ⟨_, rfl⟩
  rw [hH] at HO
  clear hO hp hy
  go_enter Try.func12, Try.ntmps12
  go_wp2_with fail
  generalize w.alloc (.cells #[.int .i64 1, .int .u32 N, .slice ba bl bc, .slice la ln lc] 29) = w2 at *
  obtain ⟨c0, c1, c2, c3, _, hlt⟩ := rowP_cells HO.out (by simp : rowP H 1 N (.slice ba bl bc) la ln lc ∈ _)
  clear hH
  go_region_held3 (fun w' => w'.cell? ⟨H, 2, none⟩ = some (.slice ba bl bc)) (first | assumption | go_keep) (first
    | (go_at_call 18; refine (rraw_yes W0 _ r v false _ _ 1000 (by first | exact HO.out.drew | exact HO.out) (Hp.out.cons _) (isSized_sizedL ys R 1000 LY (by omega))).mono ?_; rintro e w3 ⟨v1, v3, rfl, hO3, hp3⟩; rw [bodyOf_sizedL ys R LY] at hO3; rw [restOf_sizedL ys R LY] at hp3; have HO3 := Lib.hid hO3; have Hp3 := Lib.hid hp3; obtain ⟨_, _, z2, _, _, _⟩ := rowP_cells hO3 (by simp : rowP H 1 N (.slice ba bl bc) la ln lc ∈ _); obtain ⟨a3, k3, d3, rfl⟩ := hO3.form3; clear hO3 hp3)
    | (go_at_call 10; refine (same_yes _ _ ys _ (by exact HO3.out.by Hy.out.2.1) (by exact Hy.out.later HO3.out.below)).mono ?_; rintro e w4 ⟨rfl, rfl⟩)
    | (go_at_call 16; refine (good_any W0 _ r _ false _ HO3.out.swap).mono ?_; rintro e w4 ⟨rfl, rfl⟩))
  all_goals go_wp2_with fail
  all_goals go_ret
  all_goals exact ⟨_, rfl, HO3.out.tail.second, Hp3.out.strip (by decide : (4 : Nat) ≠ 1)⟩
end Go.Proofs.Ytgkkebenbpbhnaa
