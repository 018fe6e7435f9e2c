/- What a law packs of pieces is taken again, piece for piece. -/
import Derived.Test.YtgkkebenbpbhnaaRTakes2
namespace Go.Proofs.Ytgkkebenbpbhnaa
open Go.RowKit
set_option linter.unusedVariables false
set_option linter.unusedSimpArgs false

theorem Enc.elems (f : Nat) {w : World} {a : Option Addr} {n : Nat} {zss : List (List Int)} (h : Enc f 0 w a n zss) : zss.length = n ∧ Elems w 0 a zss ∧ TElems w 0 a zss := by
  cases f with
  | zero =>
    obtain ⟨rfl, rfl⟩ := h
    exact ⟨rfl, fun i hi => by simp at hi, fun i hi => by simp at hi⟩
  | succ f =>
    refine ⟨h.1, fun i hi => ?_, fun i hi => ?_⟩
    · obtain ⟨b, off, k', N', bv', la', ln', lc', e1, e2, e3⟩ := h.2 i hi
      obtain ⟨ba', bl', bc', rfl⟩ := e3.2.1
      exact ⟨b, off, k', N', ba', bl', bc', la', ln', lc', e1, e2, fun w' hb => part_any f w' 0 k' N' ba' bl' bc' la' ln' lc' _ (e3.mono hb fun yss' hy => Enc.later f hy hb) (by omega)⟩
    · obtain ⟨b, off, k', N', bv', la', ln', lc', e1, e2, e3⟩ := h.2 i hi
      obtain ⟨ba', bl', bc', rfl⟩ := e3.2.1
      exact ⟨b, off, k', N', ba', bl', bc', la', ln', lc', e1, e2, e3.long, fun w' r' v' L' R' hO' hp' => takes_any f w w' r' v' L' 0 k' N' ba' bl' bc' la' ln' lc' _ R' e3 (by omega) hO' hp'⟩

set_option maxHeartbeats 3200000 in
set_option maxRecDepth 100000 in
theorem back_any (f : Nat) (W : World) (la : Option Addr) (ln lc t : Nat) (hT0 : Tot f W la ln t) :
    Calls Try.prog 3 #[.slice la ln lc] W fun e w' => e = .returned (.bool true) ∧ Below W.heap.size W w' := by
  obtain ⟨i0, hi, hz0, hz1, hz2⟩ := info_parts info_u
  obtain ⟨i1, hi', hy0, hy1, hy2⟩ := info_parts info_rp
  have HT0 := Lib.hid hT0
  clear hT0
  go_enter Try.func3, Try.ntmps3
  go_wp2_with fail
  refine (alive_any W).mono ?_
  rintro e w1 ⟨rfl, hb1⟩
  have Hb1 := Lib.hid hb1
  have HT1 := Lib.hid (Tot.later f HT0.out hb1)
  clear hb1 HT0
  go_wp2_with fail
  refine (show Calls Try.prog 7 #[.slice la ln lc, .int .i64 1000] w1 (SizeAt w1 1000 t) from size_any f w1 la ln lc t 1000 HT1.out (by decide)).mono ?_
  rintro e w2 ⟨r, rfl, hr1, hr2, hO2⟩
  have HO2 := Lib.hid hO2
  have Hr1 := Lib.hid hr1
  clear hO2 hr1
  by_cases hrb : r ≤ 1000
  · have ht : t ≤ 1000 := by have := Hr1.out hrb; omega
    obtain ⟨yss, hE, hfl0, hln⟩ := Tot.enc f (deep := 0) HT1.out ht
    have Hyb := Lib.hid (Enc.byts f hE)
    obtain ⟨hyl, hEl, hTE⟩ := Enc.elems f hE
    have HE := Lib.hid hEl
    have HTE := Lib.hid hTE
    have Hyl := Lib.hid hyl
    have Hfl := Lib.hid (show yss.flatten.length ≤ 4000 by omega)
    have hln' : ln ≤ 1000 := by omega
    clear hEl hTE hyl hE hfl0 hr2 HT1 Hr1 ht
    have hrb' : (r : Int) ≤ 1000 := by omega
    obtain ⟨H, hH⟩ : ∃ H, w2.heap.size = H := ⟨_, rfl⟩
    have hO0 := (HO2.out.made_at 30 1 #[] 0 H (by simp [hH]) rfl (Nat.zero_le _))
    have hO1 := hO0.made_at 5 1 #[] 0 (H + 1) (by simp [hH]) rfl (Nat.zero_le _)
    have HO := Lib.hid hO1.swap
    clear hO0 hO1 HO2
    go_wp2_with fail
    go_loopw [3, 4, 22] (fun v7 v8 t wr => ∃ (k : Nat) (PS : List (Value × List Int)) (M : List Rw), k ≤ ln ∧ t = .int .i64 k ∧ PS.map (·.2) = yss.take k ∧ PS.length = k ∧ Own w1 wr (rowT v7 k PS :: rowU v8 (yss.take k).flatten :: M) ∧ ∀ p ∈ PS, rowU p.1 p.2 ∈ M) (fun _ _ t _ => ln - (intOf t).toNat)
    case atStart => exact ⟨0, [], _, Nat.zero_le _, rfl, rfl, rfl, HO.out, fun p hp => by cases hp⟩
    case round =>
      obtain ⟨k, PS, M, hk, rfl, hPS, hPl, hO, hM⟩ := hrel
      have HPS := Lib.hid hPS
      have HPl := Lib.hid hPl
      have HM := Lib.hid hM
      clear hPS hPl hM
      by_cases hlt : k < ln
      · have hky : k < yss.length := by rw [Hyl.out]; exact hlt
        obtain ⟨b, off, kd, N', ba', bl', bc', la', ln', lc', rfl, hr, hC⟩ := HE.out k hky
        have hzb : Byts yss[k] := fun z hz => Hyb.out z (List.mem_flatten.2 ⟨_, List.getElem_mem hky, hz⟩)
        have HF := Lib.hid (flat_take_succ yss k hky)
        have HPS' := Lib.hid (show ∀ u : Value, ((PS ++ [(u, yss[k])] : List (Value × List Int)).map (·.2)) = yss.take (k + 1) from fun u => by rw [List.map_append, HPS.out, List.take_succ_eq_append_getElem hky]; rfl)
        have hlen1 := flat_take_len yss (k + 1)
        rw [HF.out, List.length_append] at hlen1
        have Hlen1 := Lib.hid (Nat.le_trans hlen1 Hfl.out)
        have HC := Lib.hid hC
        have Hzb := Lib.hid hzb
        have hr' := rangeAt_later hr hO.below
        have hone := pc_one kd N' ba' bl' bc' la' ln' lc'
        have hiw := info_piece kd N' (.slice ba' bl' bc') la' ln' lc'
        have hz := zero_piece
        have HO1 := Lib.hid hO
        clear hr hC hzb hlen1 hO HO
        generalize yss[k] = zs at *
        clear hky
        generalize (yss.take k).flatten = Z at *
        go_wp2_with (first
          | (refine wpList_load_mid rfl 29 (.tmp 24) rfl b (off + k * 4) rfl (pcCells kd N' (.slice ba' bl' bc') la' ln' lc') _ hr' Try.underlying29 rfl hiw ?_)
          | (refine wpList_store_new rfl 29 (.tmp 6) (.tmp 25) rfl HO1.out (pcCells kd N' (.slice ba' bl' bc') la' ln' lc') wr.heap.size rfl rfl rfl rfl hiw hone ?_))
        intro w3 hO3 _
        have hO3 : Own w1 w3 (rowP wr.heap.size kd N' (.slice ba' bl' bc') la' ln' lc' :: rowT _ k PS :: rowU _ Z :: M) := hO3
        obtain ⟨_, _, _, _, hr2, _⟩ := rowP_cells hO3 (List.mem_cons_self ..)
        have HO2 := Lib.hid hO3
        clear hO3 hr' HO1
        generalize wr.heap.size = g at *
        go_wp2_with (refine wpList_load_mid rfl 29 (.tmp 6) rfl g 0 rfl (pcCells kd N' (.slice ba' bl' bc') la' ln' lc') _ hr2 Try.underlying29 rfl hiw ?_)
        refine (show Calls Try.prog 8 #[.agg (pcCells kd N' (.slice ba' bl' bc') la' ln' lc').toArray, .int .i64 0] w3 (PartAt w3 zs) from HC.out w3 HO2.out.below).mono ?_
        rintro e w4 ⟨u1, u2, rfl, hO3⟩
        have HO3 := Lib.hid ((HO2.out.join hO3).fifth.fifth.fifth.tail)
        obtain ⟨a1, k1, c1, rfl⟩ := hO3.form3
        obtain ⟨a2, k2, c2, rfl⟩ := hO3.tail.form3
        clear hO3 HO2 hr2
        have hB := (HO3.out.made 30 1 #[.slice a1 k1 c1] 1 rfl (by unfold maxLen; decide))
        have hsrc := Own.src' (h := hB) (by intro u hu; obtain rfl : u = .slice a1 k1 c1 := by simpa using hu
                                            rfl)
        have HB := Lib.hid hB.swap
        have Hsrc := Lib.hid hsrc
        have hkm : k + 1 ≤ maxLen := by unfold maxLen; omega
        have HLm := Lib.hid (show (PS.map (·.1) : List Value).length = k from by rw [List.length_map]; exact HPl.out)
        clear hB hsrc
        go_wp2_with (at_builtin; refine wpList_append_src rfl (.tmp 31) (.tmp 33) 25 rfl _ k (PS.map (·.1)) (.slice (some ⟨w4.heap.size, 0, none⟩) 1 1) 1 [.slice a1 k1 c1] rfl rfl HB.out i1 (.slice none 0 0) 24 Try.underlying25 hi' hy0 hy1 hy2 rfl (by decide) Hsrc.out rfl hkm (by omega) ?_)
        intro v7 w5 hO4
        have hs2 := ((hO4.only (by simp : rowU (.slice a2 k2 c2) zs ∈ _)).by Hzb.out).1
        have HO4 := Lib.hid hO4.third
        have Hs2 := Lib.hid hs2
        clear hO4 hs2
        go_wp2_with (at_builtin; refine wpList_append_src rfl (.tmp 35) (.tmp 36) 26 rfl _ Z.length (bs Z) (.slice a2 k2 c2) zs.length (bs zs) rfl rfl HO4.out i0 (.int .u8 0) 1 Try.underlying26 hi hz0 hz1 hz2 rfl (by decide) Hs2.out (by rw [bs_length, Nat.mul_one]) (by have := Hlen1.out; unfold maxLen; omega) (by have := Hlen1.out; omega) ?_)
        intro v8 w6 hO5
        have hO6 := (rowU_app hO5)
        rw [← HF.out] at hO6
        have HO6 := Lib.hid (show Own w1 w6 (rowT v7 (k + 1) (PS ++ [(.slice a1 k1 c1, zs)]) :: rowU v8 (yss.take (k + 1)).flatten :: (⟨30, 1, .slice (some ⟨w4.heap.size, 0, none⟩) 1 1, 1, [.slice a1 k1 c1]⟩ :: rowU (.slice a1 k1 c1) zs :: rowU (.slice a2 k2 c2) zs :: M)) from rowT_snoc hO6.swap)
        clear hO5 hO6 HO4 HO3 Hsrc HB
        go_wp2_with fail
        exact ⟨⟨k + 1, PS ++ [(.slice a1 k1 c1, zs)], _, by omega, by go_num, HPS'.out _, by rw [List.length_append, HPl.out]; rfl, HO6.out, fun p hp => by
          rcases List.mem_append.1 hp with h1 | h1
          · exact List.mem_cons_of_mem _ (List.mem_cons_of_mem _ (List.mem_cons_of_mem _ (HM.out p h1)))
          · rw [List.mem_singleton.1 h1]; exact List.mem_cons_of_mem _ (List.mem_cons_self ..)⟩, by simp [intOf]; omega⟩
      · obtain rfl : k = ln := by omega
        have hT : yss.take k = yss := by rw [List.take_of_length_le]; rw [Hyl.out]; exact Nat.le_refl _
        rw [hT] at hO HPS
        have hPb : ∀ p ∈ PS, Byts p.2 := fun p hp z hz => Hyb.out z (List.mem_flatten.2 ⟨p.2, by rw [← HPS.out]; exact List.mem_map_of_mem hp, hz⟩)
        obtain ⟨ap, cp, rfl, hPa⟩ := parts_of_own hO HPl.out (fun p hp => List.mem_cons_of_mem _ (HM.out p hp)) hPb
        obtain ⟨a8, c8, rfl, _, _⟩ := Own.sized (h := hO.tail)
        have hall : allOf PS = yss.flatten := by rw [allOf_map, HPS.out]
        have Hall := Lib.hid hall
        have HPa := Lib.hid hPa
        have HO1 := Lib.hid hO
        have hF := Hfl.out
        have Hd0 := Lib.hid (show (yss.drop 0).flatten = yss.flatten from rfl)
        clear hT hPb hPa hall hO HO
        generalize yss.flatten = F at *
        go_wp2_with fail
        refine (pack_any ap cp PS wr HPa.out (by rw [HPl.out]; unfold maxLen; omega) (by rw [Hall.out]; omega)).mono ?_
        rintro e w3 ⟨vL, rfl, hO3⟩
        rw [Hall.out] at hO3
        obtain ⟨aL, kL, cL, rfl⟩ := hO3.form3
        have HO3 := Lib.hid (HO1.out.join hO3)
        clear hO3 HO1
        have HByL := Lib.hid ((HO3.out.only (by simp : rowU (.slice aL kL cL) F ∈ _)).by Hyb.out)
        go_wp2_with fail
        refine (same_yes _ _ F w3 HByL.out ((HO3.out.only (by simp : rowU (.slice a8 F.length c8) F ∈ _)).by Hyb.out)).mono ?_
        rintro e w' ⟨rfl, rfl⟩
        go_wp2_with fail
        refine (read_any (.slice aL kL cL) F w3 HByL.out (by omega)).mono ?_
        rintro e w4 ⟨r, v0, rfl, hO4, hp4⟩
        have hO4 := ((HO3.out.join hO4).of_mem (.cons_cons _ (.cons_cons _ (List.nil_sublist _))) : Own w1 w4 [rowR r v0 false, rowU v0 F])
        have HO4 := Lib.hid hO4
        have Hp4 := Lib.hid (show Pc [rowU v0 F] v0 (yss.drop 0).flatten from by rw [Hd0.out]; exact hp4)
        clear hO4 hp4 HO3 HByL HPa Hall HPS HPl HM
        go_wp2_with fail
        go_loopw [49] (fun t wr => ∃ (k' : Nat) (v' : Value), k' ≤ k ∧ t = .int .i64 k' ∧ Own w1 wr (rowR r v' false :: [rowU v0 F]) ∧ Pc [rowU v0 F] v' (yss.drop k').flatten) (fun t _ => k - (intOf t).toNat)
        case atStart => exact ⟨0, v0, Nat.zero_le _, rfl, HO4.out, Hp4.out⟩
        case round =>
          obtain ⟨q, v', hq, rfl, hO, hp⟩ := hrel
          by_cases hlq : q < k
          · have hky : q < yss.length := by rw [Hyl.out]; exact hlq
            obtain ⟨b, off, kd, N', ba', bl', bc', la', ln', lc', rfl, hr, h4, hC⟩ := HTE.out q hky
            rw [flat_drop yss q hky] at hp
            have HC := Lib.hid hC
            have hr' := rangeAt_later hr hO.below
            have hone := pc_one kd N' ba' bl' bc' la' ln' lc'
            have hiw := info_piece kd N' (.slice ba' bl' bc') la' ln' lc'
            have hz := zero_piece
            have HO1 := Lib.hid hO
            have Hp1 := Lib.hid hp
            clear hr hC hO hp h4 HO4 Hp4
            generalize yss[q] = zs at *
            go_wp2_with (first
              | (refine wpList_load_mid rfl 29 (.tmp 51) rfl b (off + q * 4) rfl (pcCells kd N' (.slice ba' bl' bc') la' ln' lc') _ hr' Try.underlying29 rfl hiw ?_)
              | (refine wpList_store_new rfl 29 (.tmp 12) (.tmp 52) rfl HO1.out (pcCells kd N' (.slice ba' bl' bc') la' ln' lc') wr.heap.size rfl rfl rfl rfl hiw hone ?_))
            intro w5 hO5 _
            have hO5 : Own w1 w5 (rowP wr.heap.size kd N' (.slice ba' bl' bc') la' ln' lc' :: rowR r v' false :: [rowU v0 F]) := hO5
            obtain ⟨_, _, _, _, hr2, _⟩ := rowP_cells hO5 (List.mem_cons_self ..)
            have HO5 := Lib.hid hO5.swap
            have Hp5 := Lib.hid (Hp1.out.cons (rowP wr.heap.size kd N' (.slice ba' bl' bc') la' ln' lc'))
            clear hO5 hr' HO1
            generalize wr.heap.size = g at *
            go_wp2_with (refine wpList_load_mid rfl 29 (.tmp 12) rfl g 0 rfl (pcCells kd N' (.slice ba' bl' bc') la' ln' lc') _ hr2 Try.underlying29 rfl hiw ?_)
            refine (show Calls Try.prog 12 #[.pointer (some ⟨r, 0, none⟩), .agg (pcCells kd N' (.slice ba' bl' bc') la' ln' lc').toArray, .int .i64 0] w5 (TakesAt w1 r _ (yss.drop (q + 1)).flatten) from HC.out w5 r v' _ _ HO5.out Hp5.out).mono ?_
            rintro e w6 ⟨v5, rfl, hO6, hp6⟩
            have HO6 := Lib.hid hO6.second
            have Hp6 := Lib.hid (hp6.strip (by decide : (4 : Nat) ≠ 1))
            clear hO6 hp6 HO5 Hp5 hr2
            go_wp2_with fail
            exact ⟨⟨q + 1, v5, by omega, by go_num, HO6.out, Hp6.out⟩, by simp [intOf]; omega⟩
          · obtain rfl : q = k := by omega
            have hT : (yss.drop q).flatten = [] := by rw [List.drop_of_length_le (by rw [Hyl.out]; exact Nat.le_refl _)]; rfl
            rw [hT] at hp
            have HO1 := Lib.hid hO
            have Hp1 := Lib.hid hp
            clear hT hO hp HO4 Hp4
            go_wp2_with fail
            refine (done_any w1 wr r v' false _ [] HO1.out Hp1.out).mono ?_
            rintro e w' ⟨rfl, rfl⟩
            go_wp2_with fail
            refine (err_any w1 wr r v' false _ [] HO1.out Hp1.out).mono ?_
            rintro e w' ⟨rfl, rfl⟩
            go_wp2_with fail
            go_ret
            exact ⟨rfl, Hb1.out.trans (HO1.out.below.mono Hb1.out.size)⟩
  · have hrb' : ¬ (r : Int) ≤ 1000 := by omega
    have hrb'' : (1000 : Int) < (r : Int) := by omega
    have hr3 : (r : Int) ≤ 140737488400000 := by omega
    go_wp2_with fail
    go_ret
    exact ⟨rfl, Hb1.out.trans (HO2.out.below.mono Hb1.out.size)⟩
end Go.Proofs.Ytgkkebenbpbhnaa
