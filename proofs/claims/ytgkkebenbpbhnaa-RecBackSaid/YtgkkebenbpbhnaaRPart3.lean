/- A piece of pieces, as a part, and its bytes by hand; and any piece. -/
import Derived.Test.YtgkkebenbpbhnaaRPart2
namespace Go.Proofs.Ytgkkebenbpbhnaa
open Go.RowKit
set_option linter.unusedVariables false
set_option linter.unusedSimpArgs false

theorem info_rp : (Try.prog.info? 30).map (fun i => (i.zero, i.size, i.bytes)) = some (some (.slice none 0 0), 1, 24) := by kernel_rfl
/-- What is asked of the pieces that a list holds. -/
def Elems (w : World) (deep : Nat) (la : Option Addr) (yss : List (List Int)) : Prop :=
  ∀ i (h : i < yss.length), ∃ (b off : Nat) (k N : Int) (ba : Option Addr) (bl bc : Nat) (la' : Option Addr) (ln' lc' : Nat),
    la = some ⟨b, off, none⟩ ∧ w.rangeAt b (off + i * 4) (pcCells k N (.slice ba bl bc) la' ln' lc') ∧
    ∀ w', Below w.heap.size w w' → Calls Try.prog 8 #[.agg (pcCells k N (.slice ba bl bc) la' ln' lc').toArray, .int .i64 (deep : Int)] w' (PartAt w' yss[i])
def rowT (v : Value) (k : Nat) (PS : List (Value × List Int)) : Rw := ⟨30, 1, v, k, PS.map (·.1)⟩
theorem parts_of_own {W0 w : World} {v : Value} {k : Nat} {PS : List (Value × List Int)} {M : List Rw} (h : Own W0 w (rowT v k PS :: M)) (hk : PS.length = k) (hm : ∀ p ∈ PS, rowU p.1 p.2 ∈ M) (hb : ∀ p ∈ PS, Byts p.2) : ∃ a c, v = .slice a PS.length c ∧ Parts w a PS := by
  have h' : Own W0 w (⟨30, 1, v, k, PS.map (·.1)⟩ :: M) := h
  obtain ⟨a, c, hv, _, _⟩ := h'.sized
  refine ⟨a, c, by rw [hk]; exact hv, fun i hi => ?_⟩
  obtain ⟨g, cap, hv', _⟩ := h'.form (by omega)
  rw [hv] at hv'
  injection hv' with e1 e2 e3
  subst e1 e3
  rw [hv] at h'
  refine ⟨g, 0, rfl, ?_, (h.only (List.mem_cons_of_mem _ (hm _ (List.getElem_mem hi)))).by (hb _ (List.getElem_mem hi))⟩
  rw [Nat.zero_add, Own.cell (h := h') i (by omega)]
  simp [hi]
theorem flat_take_succ (yss : List (List Int)) (k : Nat) (h : k < yss.length) : (yss.take (k + 1)).flatten = (yss.take k).flatten ++ yss[k] := by
  rw [List.take_succ_eq_append_getElem h, List.flatten_append]; simp
theorem flat_take_len (yss : List (List Int)) (k : Nat) : (yss.take k).flatten.length ≤ yss.flatten.length := by
  have : yss.flatten = (yss.take k).flatten ++ (yss.drop k).flatten := by rw [← List.flatten_append, List.take_append_drop]
  rw [this, List.length_append]; omega
theorem allOf_map (PS : List (Value × List Int)) : allOf PS = (PS.map (·.2)).flatten := rfl
theorem rowT_snoc {W0 w : World} {v : Value} {k : Nat} {PS : List (Value × List Int)} {u : Value} {zs : List Int} {L : List Rw} (h : Own W0 w (⟨30, 1, v, k + 1, PS.map (·.1) ++ [u]⟩ :: L)) : Own W0 w (rowT v (k + 1) (PS ++ [(u, zs)]) :: L) := by
  unfold rowT
  rw [List.map_append]
  exact h

set_option maxHeartbeats 3200000 in
set_option maxRecDepth 100000 in
theorem part_list (w : World) (deep : Nat) (N : Int) (ba la : Option Addr) (bl bc ln lc : Nat) (yss : List (List Int)) (hd : deep < 4) (hE : Elems w (deep + 1) la yss) (hyl : yss.length = ln) (hyb : Byts yss.flatten) (hfl : yss.flatten.length ≤ 4000) (hln : ln ≤ 1000) :
    Calls Try.prog 8 #[.agg #[.int .i64 2, .int .u32 N, .slice ba bl bc, .slice la ln lc], .int .i64 (deep : Int)] w (PartAt w (sizedL yss.flatten)) := by
  obtain ⟨i0, hi, hz0, hz1, hz2⟩ := info_parts info_u
  obtain ⟨i1, hi', hy0, hy1, hy2⟩ := info_parts info_rp
  have HE := Lib.hid hE
  have Hyl := Lib.hid hyl
  have Hyb := Lib.hid hyb
  have Hfl := Lib.hid hfl
  obtain ⟨H, hH⟩ : ∃ H, w.heap.size = H := ⟨_, rfl⟩
  have hO0 := (((Own.start w).piece 2 N (.slice ba bl bc) la ln lc).made_at 30 1 #[] 0 (H + 1) (by simp [hH]) rfl (Nat.zero_le _))
  have hO1 := hO0.made_at 5 1 #[] 0 (H + 1 + 1) (by simp [hH]) rfl (Nat.zero_le _)
  have HO := Lib.hid hO1.swap
  have hd1 : (deep : Int) < 4 := by omega
  clear hE hyl hyb hfl hO0 hO1
  go_enter Try.func8, Try.ntmps8
  go_wp2_with fail
  go_loopw [7, 8, 42] (fun v7 v8 t wr => ∃ (k : Nat) (PS : List (Value × List Int)) (M : List Rw), k ≤ ln ∧ t = .int .i64 k ∧ PS.map (·.2) = yss.take k ∧ PS.length = k ∧ Own w wr (rowT v7 k PS :: rowU v8 (yss.take k).flatten :: M) ∧ ∀ p ∈ PS, rowU p.1 p.2 ∈ M) (fun _ _ t _ => ln - (intOf t).toNat)
  case atStart => exact ⟨0, [], _, Nat.zero_le _, rfl, rfl, rfl, HO.out, fun p hp => by cases hp⟩
  case round =>
    obtain ⟨k, PS, M, hk, rfl, hPS, hPl, hO, hM⟩ := hrel
    have HPS := Lib.hid hPS
    have HPl := Lib.hid hPl
    have HM := Lib.hid hM
    clear hPS hPl hM
    by_cases hlt : k < ln
    · have hky : k < yss.length := by rw [Hyl.out]; exact hlt
      obtain ⟨b, off, kd, N', ba', bl', bc', la', ln', lc', rfl, hr, hC⟩ := HE.out k hky
      have hzb : Byts yss[k] := fun z hz => Hyb.out z (List.mem_flatten.2 ⟨_, List.getElem_mem hky, hz⟩)
      have HF := Lib.hid (flat_take_succ yss k hky)
      have HPS' := Lib.hid (show ∀ u : Value, ((PS ++ [(u, yss[k])] : List (Value × List Int)).map (·.2)) = yss.take (k + 1) from fun u => by rw [List.map_append, HPS.out, List.take_succ_eq_append_getElem hky]; rfl)
      have hlen1 := flat_take_len yss (k + 1)
      rw [HF.out, List.length_append] at hlen1
      have Hlen1 := Lib.hid (Nat.le_trans hlen1 Hfl.out)
      have HC := Lib.hid hC
      have Hzb := Lib.hid hzb
      have hr' := rangeAt_later hr hO.below
      have hone := pc_one kd N' ba' bl' bc' la' ln' lc'
      have hiw := info_piece kd N' (.slice ba' bl' bc') la' ln' lc'
      have hz := zero_piece
      have HO1 := Lib.hid hO
      clear hr hC hzb hlen1 hO HO
      generalize yss[k] = zs at *
      clear hky
      generalize (yss.take k).flatten = Z at *
      go_wp2_with (first
        | (refine wpList_load_mid rfl 29 (.tmp 44) rfl b (off + k * 4) rfl (pcCells kd N' (.slice ba' bl' bc') la' ln' lc') _ hr' Try.underlying29 rfl hiw ?_)
        | (refine wpList_store_new rfl 29 (.tmp 10) (.tmp 45) rfl HO1.out (pcCells kd N' (.slice ba' bl' bc') la' ln' lc') wr.heap.size rfl rfl rfl rfl hiw hone ?_))
      intro w2 hO2 _
      have hO2 : Own w w2 (rowP wr.heap.size kd N' (.slice ba' bl' bc') la' ln' lc' :: rowT _ k PS :: rowU _ Z :: M) := hO2
      obtain ⟨_, _, _, _, hr2, _⟩ := rowP_cells hO2 (List.mem_cons_self ..)
      have HO2 := Lib.hid hO2
      clear hO2 hr' HO1
      generalize wr.heap.size = g at *
      go_wp2_with (refine wpList_load_mid rfl 29 (.tmp 10) rfl g 0 rfl (pcCells kd N' (.slice ba' bl' bc') la' ln' lc') _ hr2 Try.underlying29 rfl hiw ?_)
      refine (show Calls Try.prog 8 #[.agg (pcCells kd N' (.slice ba' bl' bc') la' ln' lc').toArray, .int .i64 ((deep : Int) + 1)] w2 (PartAt w2 zs) from HC.out w2 HO2.out.below).mono ?_
      rintro e w3 ⟨u1, u2, rfl, hO3⟩
      have HO3 := Lib.hid ((HO2.out.join hO3).fifth.fifth.fifth.tail)
      obtain ⟨a1, k1, c1, rfl⟩ := hO3.form3
      obtain ⟨a2, k2, c2, rfl⟩ := hO3.tail.form3
      clear hO3 HO2 hr2
      have hB := (HO3.out.made 30 1 #[.slice a1 k1 c1] 1 rfl (by unfold maxLen; decide))
      have hsrc := Own.src' (h := hB) (by intro u hu; obtain rfl : u = .slice a1 k1 c1 := by simpa using hu
                                          rfl)
      have HB := Lib.hid hB.swap
      have Hsrc := Lib.hid hsrc
      have hkm : k + 1 ≤ maxLen := by unfold maxLen; omega
      have HLm := Lib.hid (show (PS.map (·.1) : List Value).length = k from by rw [List.length_map]; exact HPl.out)
      clear hB hsrc
      go_wp2_with (at_builtin; refine wpList_append_src rfl (.tmp 53) (.tmp 55) 25 rfl _ k (PS.map (·.1)) (.slice (some ⟨w3.heap.size, 0, none⟩) 1 1) 1 [.slice a1 k1 c1] rfl rfl HB.out i1 (.slice none 0 0) 24 Try.underlying25 hi' hy0 hy1 hy2 rfl (by decide) Hsrc.out rfl hkm (by omega) ?_)
      intro v7 w4 hO4
      have hs2 := ((hO4.only (by simp : rowU (.slice a2 k2 c2) zs ∈ _)).by Hzb.out).1
      have HO4 := Lib.hid hO4.third
      have Hs2 := Lib.hid hs2
      clear hO4 hs2
      go_wp2_with (at_builtin; refine wpList_append_src rfl (.tmp 57) (.tmp 58) 26 rfl _ Z.length (bs Z) (.slice a2 k2 c2) zs.length (bs zs) rfl rfl HO4.out i0 (.int .u8 0) 1 Try.underlying26 hi hz0 hz1 hz2 rfl (by decide) Hs2.out (by rw [bs_length, Nat.mul_one]) (by have := Hlen1.out; unfold maxLen; omega) (by have := Hlen1.out; omega) ?_)
      intro v8 w5 hO5
      have hO6 := (rowU_app hO5)
      rw [← HF.out] at hO6
      have HO6 := Lib.hid (show Own w w5 (rowT v7 (k + 1) (PS ++ [(.slice a1 k1 c1, zs)]) :: rowU v8 (yss.take (k + 1)).flatten :: (⟨30, 1, .slice (some ⟨w3.heap.size, 0, none⟩) 1 1, 1, [.slice a1 k1 c1]⟩ :: rowU (.slice a1 k1 c1) zs :: rowU (.slice a2 k2 c2) zs :: M)) from rowT_snoc hO6.swap)
      clear hO5 hO6 HO4 HO3 Hsrc HB
      go_wp2_with fail
      exact ⟨⟨k + 1, PS ++ [(.slice a1 k1 c1, zs)], _, by omega, by go_num, HPS'.out _, by rw [List.length_append, HPl.out]; rfl, HO6.out, fun p hp => by
        rcases List.mem_append.1 hp with h1 | h1
        · exact List.mem_cons_of_mem _ (List.mem_cons_of_mem _ (List.mem_cons_of_mem _ (HM.out p h1)))
        · rw [List.mem_singleton.1 h1]; exact List.mem_cons_of_mem _ (List.mem_cons_self ..)⟩, by simp [intOf]; omega⟩
    · obtain rfl : k = ln := by omega
      have hT : yss.take k = yss := by rw [List.take_of_length_le]; rw [Hyl.out]; exact Nat.le_refl _
      rw [hT] at hO HPS
      have hPb : ∀ p ∈ PS, Byts p.2 := fun p hp z hz => Hyb.out z (List.mem_flatten.2 ⟨p.2, by rw [← HPS.out]; exact List.mem_map_of_mem hp, hz⟩)
      obtain ⟨ap, cp, rfl, hPa⟩ := parts_of_own hO HPl.out (fun p hp => List.mem_cons_of_mem _ (HM.out p hp)) hPb
      obtain ⟨a8, c8, rfl, _, _⟩ := Own.sized (h := hO.tail)
      have hall : allOf PS = yss.flatten := by rw [allOf_map, HPS.out]
      have Hall := Lib.hid hall
      have HPa := Lib.hid hPa
      have HO1 := Lib.hid hO
      have hF := Hfl.out
      clear hT hPb hPa hall hO HO
      generalize yss.flatten = F at *
      go_wp2_with fail
      refine (list_any ap cp PS wr HPa.out (by rw [HPl.out]; unfold maxLen; omega) (by rw [Hall.out]; omega)).mono ?_
      rintro e w3 ⟨vL, rfl, hO3⟩
      rw [Hall.out] at hO3
      obtain ⟨aL, kL, cL, rfl⟩ := hO3.form3
      have HO3 := Lib.hid (HO1.out.join hO3)
      clear hO3 HO1
      go_wp2_with fail
      refine (four_any (F.length : Int) w3 (by omega) (by omega)).mono ?_
      rintro e w4 ⟨v4, rfl, hO4⟩
      have HO4 := Lib.hid (HO3.out.join hO4)
      have hs := ((HO4.out.only (by simp : rowU (.slice a8 F.length c8) F ∈ _)).by Hyb.out).1
      have Hs := Lib.hid hs
      clear hs hO4 HO3
      go_wp2_with (at_builtin; refine wpList_append_src rfl (.tmp 67) (.tmp 68) 26 rfl v4 (le4 F.length).length (bs (le4 F.length)) (.slice a8 F.length c8) F.length (bs F) rfl rfl HO4.out i0 (.int .u8 0) 1 Try.underlying26 hi hz0 hz1 hz2 rfl (by decide) Hs.out (by rw [bs_length, Nat.mul_one]) (by rw [le4_length]; unfold maxLen; omega) (by rw [le4_length]; omega) ?_)
      intro v9 w5 hO5
      have HO5 := Lib.hid (rowU_app hO5)
      clear hO5 HO4 Hs
      go_wp2_with fail
      go_ret2
      exact ⟨_, _, rfl, HO5.out.swap.of_mem (.cons_cons _ (.cons_cons _ (List.nil_sublist _)))⟩

theorem part_any (f : Nat) : ∀ (w : World) (deep : Nat) (k N : Int) (ba : Option Addr) (bl bc : Nat) (la : Option Addr) (ln lc : Nat) (zs : List Int), One (Enc f (deep + 1) w) w deep k N (.slice ba bl bc) la ln zs → deep ≤ 4 →
    Calls Try.prog 8 #[.agg (pcCells k N (.slice ba bl bc) la ln lc).toArray, .int .i64 (deep : Int)] w (PartAt w zs) := by
  induction f with
  | zero =>
    intro w deep k N ba bl bc la ln lc zs h hd
    obtain ⟨h1, _, h3, h4, h5⟩ := h
    rcases h5 with ⟨rfl, ys, y1, y2, rfl⟩ | ⟨rfl, d4, yss, y1, y2, y3, rfl⟩ | ⟨k1, k2, rfl⟩
    · exact part_bytes w deep N ba la bl bc ln lc ys y1 y2
    · obtain ⟨rfl, rfl⟩ := y1
      exact part_list w deep N ba la bl bc 0 lc [] d4 (fun i hi => by simp at hi) rfl Byts.nil (by simp) (by omega)
    · exact part_num w deep k N ba la bl bc ln lc hd k1 k2 h3 h4
  | succ f ih =>
    intro w deep k N ba bl bc la ln lc zs h hd
    obtain ⟨h1, _, h3, h4, h5⟩ := h
    rcases h5 with ⟨rfl, ys, y1, y2, rfl⟩ | ⟨rfl, d4, yss, y1, y2, y3, rfl⟩ | ⟨k1, k2, rfl⟩
    · exact part_bytes w deep N ba la bl bc ln lc ys y1 y2
    · refine part_list w deep N ba la bl bc ln lc yss d4 (fun i hi => ?_) y1.1 (Enc.byts (f + 1) y1) y2 (by rw [← y1.1]; exact y3)
      obtain ⟨b, off, k', N', bv', la', ln', lc', e1, e2, e3⟩ := y1.2 i hi
      obtain ⟨ba', bl', bc', rfl⟩ := e3.2.1
      exact ⟨b, off, k', N', ba', bl', bc', la', ln', lc', e1, e2, fun w' hb => ih w' (deep + 1) k' N' ba' bl' bc' la' ln' lc' _ (e3.mono hb fun yss' hy => Enc.later f hy hb) (by omega)⟩
    · exact part_num w deep k N ba la bl bc ln lc hd k1 k2 h3 h4
end Go.Proofs.Ytgkkebenbpbhnaa
