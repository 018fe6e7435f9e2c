/- Does a reader take a piece of pieces; and any piece? -/
import Derived.Test.YtgkkebenbpbhnaaRTakes
namespace Go.Proofs.Ytgkkebenbpbhnaa
open Go.RowKit
set_option linter.unusedVariables false
set_option linter.unusedSimpArgs false

/-- What is asked of the pieces that a list holds. -/
def TElems (W0 : World) (deep : Nat) (la : Option Addr) (yss : List (List Int)) : Prop :=
  ∀ i (h : i < yss.length), ∃ (b off : Nat) (k N : Int) (ba : Option Addr) (bl bc : Nat) (la' : Option Addr) (ln' lc' : Nat),
    la = some ⟨b, off, none⟩ ∧ W0.rangeAt b (off + i * 4) (pcCells k N (.slice ba bl bc) la' ln' lc') ∧ 4 ≤ yss[i].length ∧
    ∀ w r v L R, Own W0 w (rowR r v false :: L) → Pc L v (yss[i] ++ R) → Calls Try.prog 12 #[.pointer (some ⟨r, 0, none⟩), .agg (pcCells k N (.slice ba bl bc) la' ln' lc').toArray, .int .i64 (deep : Int)] w (TakesAt W0 r L R)
theorem flat_drop (yss : List (List Int)) (k : Nat) (h : k < yss.length) : (yss.drop k).flatten = yss[k] ++ (yss.drop (k + 1)).flatten := by
  rw [List.drop_eq_getElem_cons h]; rfl

set_option maxHeartbeats 3200000 in
set_option maxRecDepth 100000 in
theorem takes_list (W0 w : World) (r : Nat) (v : Value) (L : List Rw) (deep : Nat) (N : Int) (ba la : Option Addr) (bl bc ln lc : Nat) (yss : List (List Int)) (R : List Int) (hd : deep < 4) (hE : TElems W0 (deep + 1) la yss) (hyl : yss.length = ln) (hfl : yss.flatten.length ≤ 4000) (hln : ln ≤ 1000)
    (hO : Own W0 w (rowR r v false :: L)) (hp : Pc L v (sizedL yss.flatten ++ R)) :
    Calls Try.prog 12 #[.pointer (some ⟨r, 0, none⟩), .agg #[.int .i64 2, .int .u32 N, .slice ba bl bc, .slice la ln lc], .int .i64 (deep : Int)] w (TakesAt W0 r L R) := by
  have HE := Lib.hid hE
  have Hyl := Lib.hid hyl
  have HO := Lib.hid ((hO.piece 2 N (.slice ba bl bc) la ln lc).swap)
  have Hp := Lib.hid hp
  have LF : yss.flatten.length < 4294967296 := by omega
  have HI := Lib.hid (isSized_sizedL yss.flatten R 16777216 LF (by omega))
  have HBd := Lib.hid (bodyOf_sizedL yss.flatten R LF)
  have HRs := Lib.hid (restOf_sizedL yss.flatten R LF)
  have hd1 : (deep : Int) < 4 := by omega
  obtain ⟨H, hH⟩ : ∃ H, w.heap.size = H := ⟨_, rfl⟩
  rw [hH] at HO
  clear hE hyl hO hp hfl LF
  go_enter Try.func12, Try.ntmps12
  go_wp2_with fail
  generalize w.alloc (.cells #[.int .i64 2, .int .u32 N, .slice ba bl bc, .slice la ln lc] 29) = w2 at *
  clear hH
  refine (rlist_yes W0 w2 r v false _ _ HO.out (Hp.out.cons _) HI.out).mono ?_
  rintro e w3 ⟨r2, v1, v2, rfl, hO3, hp3, hq3⟩
  rw [HBd.out] at hp3
  rw [HRs.out] at hq3
  obtain ⟨_, _, _, z3, _, hlt3⟩ := rowP_cells hO3 (by simp : rowP H 2 N (.slice ba bl bc) la ln lc ∈ _)
  have HO3 := Lib.hid hO3
  have Hp3 := Lib.hid (hp3.cons (rowR r v2 false))
  have Hq3 := Lib.hid hq3
  clear hO3 hp3 hq3
  go_wp2_with fail
  clear z3
  go_loopw [38] (fun t wr => ∃ (k : Nat) (v' : Value), k ≤ ln ∧ t = .int .i64 k ∧ Own W0 wr (rowR r2 v' false :: rowR r v2 false :: rowP H 2 N (.slice ba bl bc) la ln lc :: L) ∧ Pc (rowR r v2 false :: rowP H 2 N (.slice ba bl bc) la ln lc :: L) v' (yss.drop k).flatten) (fun t _ => ln - (intOf t).toNat)
  case atStart => exact ⟨0, v1, Nat.zero_le _, rfl, HO3.out, Hp3.out⟩
  case round =>
    obtain ⟨k, v', hk, rfl, hO, hp⟩ := hrel
    by_cases hlt : k < ln
    · have hky : k < yss.length := by rw [Hyl.out]; exact hlt
      obtain ⟨b, off, kd, N', ba', bl', bc', la', ln', lc', rfl, hr, h4, hC⟩ := HE.out k hky
      rw [flat_drop yss k hky] at hp
      have HC := Lib.hid hC
      have hr' := rangeAt_later hr hO.below
      have hone := pc_one kd N' ba' bl' bc' la' ln' lc'
      have hiw := info_piece kd N' (.slice ba' bl' bc') la' ln' lc'
      have hz := zero_piece
      have HO1 := Lib.hid hO
      have Hp1 := Lib.hid hp
      have Hmore := Lib.hid (show decide (0 < (yss[k] ++ (yss.drop (k + 1)).flatten).length) = true by rw [List.length_append]; simp; omega)
      clear hr hC hO hp h4 HO3 Hp3 HO
      go_wp2_with (first
        | (refine wpList_load_mid rfl 29 (.tmp 40) rfl b (off + k * 4) rfl (pcCells kd N' (.slice ba' bl' bc') la' ln' lc') _ hr' Try.underlying29 rfl hiw ?_)
        | (refine wpList_store_new rfl 29 (.tmp 9) (.tmp 41) rfl HO1.out (pcCells kd N' (.slice ba' bl' bc') la' ln' lc') wr.heap.size rfl rfl rfl rfl hiw hone ?_))
      intro w4 hO4 _
      have hO4 : Own W0 w4 (rowP wr.heap.size kd N' (.slice ba' bl' bc') la' ln' lc' :: rowR r2 v' false :: rowR r v2 false :: rowP H 2 N (.slice ba bl bc) (some ⟨b, off, none⟩) ln lc :: L) := hO4
      obtain ⟨y0, y1, y2, y3, _, _⟩ := rowP_cells hO4 (List.mem_cons_self ..)
      have HO4 := Lib.hid hO4.swap
      have Hp4 := Lib.hid (Hp1.out.cons (rowP wr.heap.size kd N' (.slice ba' bl' bc') la' ln' lc'))
      clear hO4 hr' HO1 hiw hone
      generalize wr.heap.size = g at *
      go_wp2_with fail
      refine (more_any W0 w4 r2 v' false _ _ HO4.out Hp4.out).mono ?_
      rintro e w' ⟨rfl, rfl⟩
      rw [Hmore.out]
      go_wp2_with fail
      refine (show Calls Try.prog 12 #[.pointer (some ⟨r2, 0, none⟩), .agg #[.int .i64 kd, .int .u32 N', .slice ba' bl' bc', .slice la' ln' lc'], .int .i64 ((deep : Int) + 1)] w4 (TakesAt W0 r2 _ (yss.drop (k + 1)).flatten) from HC.out w4 r2 v' _ _ HO4.out Hp4.out).mono ?_
      rintro e w5 ⟨v5, rfl, hO5, hp5⟩
      have HO5 := Lib.hid hO5.second
      have Hp5 := Lib.hid (hp5.strip (by decide : (4 : Nat) ≠ 1))
      clear hO5 hp5 HO4 Hp4
      go_wp2_with fail
      exact ⟨⟨k + 1, v5, by omega, by go_num, HO5.out, Hp5.out⟩, by simp [intOf]; omega⟩
    · obtain rfl : k = ln := by omega
      have hT : (yss.drop k).flatten = [] := by rw [List.drop_of_length_le (by rw [Hyl.out]; exact Nat.le_refl _)]; rfl
      rw [hT] at hp
      have HO1 := Lib.hid hO
      have Hp1 := Lib.hid hp
      clear hT hO hp HO3 Hp3 HO
      go_wp2_with fail
      refine (done_any W0 wr r2 v' false _ [] HO1.out Hp1.out).mono ?_
      rintro e w' ⟨rfl, rfl⟩
      go_wp2_with fail
      refine (good_any W0 wr r v2 false _ HO1.out.swap).mono ?_
      rintro e w' ⟨rfl, rfl⟩
      go_wp2_with fail
      go_ret
      exact ⟨_, rfl, HO1.out.tail.second, Hq3.out.strip (by decide : (4 : Nat) ≠ 1)⟩

theorem One.long {E : Option Addr → Nat → List (List Int) → Prop} {w : World} {deep : Nat} {k N : Int} {bv : Value} {la : Option Addr} {ln : Nat} {zs : List Int} (h : One E w deep k N bv la ln zs) : 4 ≤ zs.length := by
  obtain ⟨_, _, _, _, h5⟩ := h
  rcases h5 with ⟨_, ys, _, _, rfl⟩ | ⟨_, _, yss, _, _, _, rfl⟩ | ⟨_, _, rfl⟩
  · rw [sizedL_length]; omega
  · rw [sizedL_length]; omega
  · rw [le4_length]; omega
theorem takes_any (f : Nat) : ∀ (W0 w : World) (r : Nat) (v : Value) (L : List Rw) (deep : Nat) (k N : Int) (ba : Option Addr) (bl bc : Nat) (la : Option Addr) (ln lc : Nat) (zs R : List Int), One (Enc f (deep + 1) W0) W0 deep k N (.slice ba bl bc) la ln zs → deep ≤ 4 → Own W0 w (rowR r v false :: L) → Pc L v (zs ++ R) →
    Calls Try.prog 12 #[.pointer (some ⟨r, 0, none⟩), .agg (pcCells k N (.slice ba bl bc) la ln lc).toArray, .int .i64 (deep : Int)] w (TakesAt W0 r L R) := by
  induction f with
  | zero =>
    intro W0 w r v L deep k N ba bl bc la ln lc zs R h hd hO hp
    obtain ⟨h1, _, h3, h4, h5⟩ := h
    rcases h5 with ⟨rfl, ys, y1, y2, rfl⟩ | ⟨rfl, d4, yss, y1, y2, y3, rfl⟩ | ⟨k1, k2, rfl⟩
    · exact takes_bytes W0 w r v L deep N ba la bl bc ln lc ys R y1 y2 hO hp
    · obtain ⟨rfl, rfl⟩ := y1
      exact takes_list W0 w r v L deep N ba la bl bc 0 lc [] R d4 (fun i hi => by simp at hi) rfl (by simp) (by omega) hO hp
    · exact takes_num W0 w r v L deep k N ba la bl bc ln lc R hd k1 k2 h3 h4 hO hp
  | succ f ih =>
    intro W0 w r v L deep k N ba bl bc la ln lc zs R h hd hO hp
    obtain ⟨h1, _, h3, h4, h5⟩ := h
    rcases h5 with ⟨rfl, ys, y1, y2, rfl⟩ | ⟨rfl, d4, yss, y1, y2, y3, rfl⟩ | ⟨k1, k2, rfl⟩
    · exact takes_bytes W0 w r v L deep N ba la bl bc ln lc ys R y1 y2 hO hp
    · refine takes_list W0 w r v L deep N ba la bl bc ln lc yss R d4 (fun i hi => ?_) y1.1 y2 (by rw [← y1.1]; exact y3) hO hp
      obtain ⟨b, off, k', N', bv', la', ln', lc', e1, e2, e3⟩ := y1.2 i hi
      obtain ⟨ba', bl', bc', rfl⟩ := e3.2.1
      exact ⟨b, off, k', N', ba', bl', bc', la', ln', lc', e1, e2, e3.long, fun w' r' v' L' R' hO' hp' => ih W0 w' r' v' L' (deep + 1) k' N' ba' bl' bc' la' ln' lc' _ R' e3 (by omega) hO' hp'⟩
    · exact takes_num W0 w r v L deep k N ba la bl bc ln lc R hd k1 k2 h3 h4 hO hp
end Go.Proofs.Ytgkkebenbpbhnaa
