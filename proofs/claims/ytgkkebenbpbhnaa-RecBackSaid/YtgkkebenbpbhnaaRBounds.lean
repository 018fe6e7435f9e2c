/- 'RecBounds': of whatever bytes the law returns true, and writes nothing that was there. -/
import Derived.Test.YtgkkebenbpbhnaaRAlive
import Derived.Deep.DeepCutAuto
namespace Go.Proofs.Ytgkkebenbpbhnaa
open Go.RowKit
set_option linter.unusedVariables false
set_option linter.unusedSimpArgs false

theorem and_mask (q : Int) (c : Nat) (hc : c < 4294967296) : ∃ m : Nat, bits .and .i64 q (c : Int) = (m : Int) ∧ m ≤ c := by
  refine ⟨((BitVec.ofInt 64 q) &&& BitVec.ofInt 64 (c : Int)).toNat, ?_, ?_⟩
  · show IntKind.i64.wrap ((BitVec.ofInt 64 q &&& BitVec.ofInt 64 (c : Int)).toNat : Int) = _
    have h : ((BitVec.ofInt 64 q) &&& BitVec.ofInt 64 (c : Int)).toNat ≤ c := by
      rw [BitVec.toNat_and, BitVec.ofInt_natCast, BitVec.toNat_ofNat, Nat.mod_eq_of_lt (by omega)]; exact Nat.and_le_right
    exact IntWalk.i64_in _ (by omega)
  · rw [BitVec.toNat_and, BitVec.ofInt_natCast, BitVec.toNat_ofNat, Nat.mod_eq_of_lt (by omega)]; exact Nat.and_le_right

set_option maxHeartbeats 3200000 in
set_option maxRecDepth 100000 in
theorem bounds_long (v : Value) (zs : List Int) (w : World) (most : Int) (raw : Bool) (h : By w v zs) (hl : 200 < zs.length) :
    Calls Try.prog 4 #[v, .int .i64 most, .bool raw] w fun e w' => e = .returned (.bool true) ∧ Below w.heap.size w w' := by
  obtain ⟨_, _, a, c, rfl, _, _⟩ := h
  go_enter Try.func4, Try.ntmps4
  go_wp2_with (go_at_call 6; refine (alive_any _).mono ?_; rintro e w1 ⟨rfl, hb1⟩)
  go_ret
  exact ⟨rfl, hb1⟩

theorem sum_four (z0 z1 z2 z3 : Int) : z0 + 256 * z1 + 65536 * z2 + 16777216 * z3 = num4 [z0, z1, z2, z3] := rfl

theorem By.sub {w : World} {g o c : Nat} {zs : List Int} (h : By w (.slice (some ⟨g, o, none⟩) zs.length c) zs) (i k : Nat) (hik : i + k ≤ zs.length) (c' : Nat) (h1 : k ≤ c') (h2 : c' ≤ maxLen) :
    By w (.slice (some ⟨g, o + i, none⟩) k c') ((zs.drop i).take k) := by
  have hl : ((zs.drop i).take k).length = k := by rw [List.length_take, List.length_drop]; omega
  refine ⟨?_, (h.2.1.drop i).take k, _, c', by rw [hl], by rw [hl]; exact h1, h2⟩
  rw [hl]
  refine .inr ⟨_, c', rfl, fun j u hj => ?_, bs_one _⟩
  have hlt : j < k := by
    rcases Nat.lt_or_ge j k with h3 | h3
    · exact h3
    · rw [List.getElem?_eq_none (by rw [bs_length, hl]; exact h3)] at hj; cases hj
  obtain ⟨g', o', c2, he, _, _, hc⟩ := h.cells (by omega)
  injection he with e1 e2 e3
  injection e1 with e1
  injection e1 with e1 e4 e5
  subst e1 e4
  rw [Addr.add_mid, Nat.add_assoc, hc (i + j) (by omega), ← hj]
  simp [bs, List.getElem?_take, hlt, List.getElem?_eq_getElem (show i + j < zs.length by omega)]
theorem By.empty' (w : World) (a : Addr) (n : Nat) (l : List Int) (hn : n = 0) : By w (.slice (some a) n 0) (l.take n) := by
  subst hn
  exact ⟨.inr ⟨a, 0, rfl, fun j u hj => by simp [bs] at hj, bs_one _⟩, Byts.nil, _, 0, rfl, Nat.zero_le _, Nat.zero_le _⟩
theorem By.empty (w : World) (a : Addr) (c : Nat) (h : c ≤ maxLen) : By w (.slice (some a) 0 c) [] := ⟨.inr ⟨a, c, rfl, fun j u hj => by simp [bs] at hj, bs_one _⟩, Byts.nil, _, c, rfl, Nat.zero_le _, h⟩

set_option maxHeartbeats 3200000 in
set_option maxRecDepth 100000 in
theorem bounds_A (v : Value) (zs : List Int) (w : World) (most : Int) (m : Nat) (hm : bits BinOp.and IntKind.i64 most 1048575 = (m : Int)) (hmb : m ≤ 1048575) (h : By w v zs) (hl : zs.length ≤ 200) (h4 : zs.length < 4) :
    Calls Try.prog 4 #[v, .int .i64 most, .bool false] w fun e w' => e = .returned (.bool true) ∧ Below w.heap.size w w' := by
  obtain ⟨i0, hi, hz0, hz1, hz2⟩ := info_parts info_u
  have Hy := Lib.hid h
  obtain ⟨_, hz, a, c, rfl, _, _⟩ := h
  have hz := Lib.hid hz
  go_enter Try.func4, Try.ntmps4
  go_upto_region 6 with (go_at_call 6; refine (alive_any _).mono ?_; rintro e w1 ⟨rfl, hb1⟩)
  have hO1 := (Own.of_below hb1).made 5 1 #[] 0 rfl (Nat.zero_le _)
  have HO1 := Lib.hid hO1
  have Hs := Lib.hid (Hy.out.later hO1.below).1
  have Hb1 := Lib.hid hb1
  clear hO1 hb1
  go_wp2_with (at_builtin; refine wpList_append_src rfl (.tmp 20) (.tmp 21) 26 rfl (.slice (some ⟨w1.heap.size, 0, none⟩) 0 0) 0 [] (.slice a zs.length c) zs.length (bs zs) rfl rfl HO1.out i0 (.int .u8 0) 1 Try.underlying26 hi hz0 hz1 hz2 rfl (by decide) Hs.out (by rw [bs_length, Nat.mul_one]) (by unfold maxLen; omega) (by omega) ?_)
  intro v2 w2 hO2
  have HO2 := Lib.hid (show Own w w2 [rowU v2 zs] from hO2)
  clear hO2
  obtain ⟨a2, k2, c2, rfl⟩ := HO2.out.form3
  go_wp2_with fail
  refine (read_any _ zs w2 (HO2.out.by hz.out) (by omega)).mono ?_
  rintro e w3 ⟨r, v3, rfl, hO3, hp3⟩
  have HO3 := Lib.hid (HO2.out.join hO3)
  have Hp3 := Lib.hid (show Pc ([rowU v3 zs] ++ [rowU (.slice a2 k2 c2) zs]) v3 zs from hp3.mono (by simp))
  clear hO3 hp3 Hs HO1
  go_wp2_with fail
  refine (rnum_no w w3 r v3 false _ zs (m : Int) HO3.out Hp3.out (by omega)).mono ?_
  rintro e w4 ⟨rfl, hO4⟩
  have HO4 := Lib.hid hO4
  have Hp4 := Lib.hid (Pc.nil ([rowU v3 zs] ++ [rowU (.slice a2 k2 c2) zs]))
  clear hO4
  go_wp2_with fail
  refine (good_any w w4 r _ true _ HO4.out).mono ?_
  rintro e w' ⟨rfl, rfl⟩
  go_wp2_with fail
  refine (more_any w w4 r _ true _ [] HO4.out Hp4.out).mono ?_
  rintro e w' ⟨rfl, rfl⟩
  go_wp2_with fail
  refine (done_any w w4 r _ true _ [] HO4.out Hp4.out).mono ?_
  rintro e w' ⟨rfl, rfl⟩
  go_wp2_with fail
  go_ret
  exact ⟨rfl, HO4.out.below⟩

set_option maxHeartbeats 3200000 in
set_option maxRecDepth 100000 in
theorem bounds_C (v : Value) (zs : List Int) (w : World) (most : Int) (m : Nat) (hm : bits BinOp.and IntKind.i64 most 1048575 = (m : Int)) (hmb : m ≤ 1048575) (h : By w v zs) (hl : zs.length ≤ 200) (hn4 : 4 ≤ zs.length) (hnm : (m : Int) < num4 zs) :
    Calls Try.prog 4 #[v, .int .i64 most, .bool false] w fun e w' => e = .returned (.bool true) ∧ Below w.heap.size w w' := by
  obtain ⟨i0, hi, hz0, hz1, hz2⟩ := info_parts info_u
  have Hy := Lib.hid h
  obtain ⟨_, hz, a, c, rfl, _, _⟩ := h
  have hz := Lib.hid hz
  go_enter Try.func4, Try.ntmps4
  go_upto_region 6 with (go_at_call 6; refine (alive_any _).mono ?_; rintro e w1 ⟨rfl, hb1⟩)
  have hO1 := (Own.of_below hb1).made 5 1 #[] 0 rfl (Nat.zero_le _)
  have HO1 := Lib.hid hO1
  have Hs := Lib.hid (Hy.out.later hO1.below).1
  have Hb1 := Lib.hid hb1
  clear hO1 hb1
  go_wp2_with (at_builtin; refine wpList_append_src rfl (.tmp 20) (.tmp 21) 26 rfl (.slice (some ⟨w1.heap.size, 0, none⟩) 0 0) 0 [] (.slice a zs.length c) zs.length (bs zs) rfl rfl HO1.out i0 (.int .u8 0) 1 Try.underlying26 hi hz0 hz1 hz2 rfl (by decide) Hs.out (by rw [bs_length, Nat.mul_one]) (by unfold maxLen; omega) (by omega) ?_)
  intro v2 w2 hO2
  have HO2 := Lib.hid (show Own w w2 [rowU v2 zs] from hO2)
  clear hO2
  obtain ⟨a2, k2, c2, rfl⟩ := HO2.out.form3
  go_wp2_with fail
  refine (read_any _ zs w2 (HO2.out.by hz.out) (by omega)).mono ?_
  rintro e w3 ⟨r, v3, rfl, hO3, hp3⟩
  have HO3 := Lib.hid (HO2.out.join hO3)
  have Hp3 := Lib.hid (show Pc ([rowU v3 zs] ++ [rowU (.slice a2 k2 c2) zs]) v3 zs from hp3.mono (by simp))
  clear hO3 hp3 Hs HO1
  obtain ⟨g, o, c', he, _, _, hc⟩ := (Hy.out.later HO3.out.below).cells (by omega)
  injection he with e1 e2 e3
  subst e1 e3
  have Hl4 := Lib.hid (show ∃ z0 z1 z2 z3 ys, zs = z0 :: z1 :: z2 :: z3 :: ys from by
    match zs, hn4 with
    | z0 :: z1 :: z2 :: z3 :: ys, _ => exact ⟨z0, z1, z2, z3, ys, rfl⟩)
  have k0 := hc 0 (by omega)
  have k1 := hc 1 (by omega)
  have k2 := hc 2 (by omega)
  have k3 := hc 3 (by omega)
  have hnum : zs[0] + (256 : Int) * zs[1] + (65536 : Int) * zs[2] + (16777216 : Int) * zs[3] = num4 zs := by
    unfold num4
    simp only [List.getD_eq_getElem?_getD]
    rw [List.getElem?_eq_getElem (show 0 < zs.length by omega), List.getElem?_eq_getElem (show 1 < zs.length by omega), List.getElem?_eq_getElem (show 2 < zs.length by omega), List.getElem?_eq_getElem (show 3 < zs.length by omega)]
    rfl
  have Hnum := Lib.hid hnum
  clear hnum
  have b0 := hz.out zs[0] (List.getElem_mem _)
  have b1 := hz.out zs[1] (List.getElem_mem _)
  have b2 := hz.out zs[2] (List.getElem_mem _)
  have b3 := hz.out zs[3] (List.getElem_mem _)
  simp only [Nat.add_zero] at k0
  clear hc
  generalize zs[0] = z0 at *
  generalize zs[1] = z1 at *
  generalize zs[2] = z2 at *
  generalize zs[3] = z3 at *
  go_wp2_with fail
  go_quiet (fail)
  rw [Hnum.out]
  clear k0 k1 k2 k3 b0 b1 b2 b3 Hnum
  have HN := Lib.hid (show num4 zs = num4 zs from rfl)
  obtain ⟨n, hn⟩ : ∃ n, num4 zs = n := ⟨_, rfl⟩
  rw [hn] at hnm ⊢
  have Hn := Lib.hid hn
  clear hn
  go_wp2_with fail
  refine (rnum_no w _ r v3 false _ zs (m : Int) HO3.out.drewN Hp3.out (by rw [Hn.out]; omega)).mono ?_
  rintro e w4 ⟨rfl, hO4⟩
  have HO4 := Lib.hid hO4
  have Hp4 := Lib.hid (Pc.nil ([rowU v3 zs] ++ [rowU (.slice a2 k2 c2) zs]))
  clear hO4
  go_wp2_with fail
  refine (good_any w w4 r _ true _ HO4.out).mono ?_
  rintro e w' ⟨rfl, rfl⟩
  go_wp2_with fail
  refine (more_any w w4 r _ true _ [] HO4.out Hp4.out).mono ?_
  rintro e w' ⟨rfl, rfl⟩
  go_wp2_with fail
  refine (done_any w w4 r _ true _ [] HO4.out Hp4.out).mono ?_
  rintro e w' ⟨rfl, rfl⟩
  go_wp2_with fail
  go_ret
  exact ⟨rfl, HO4.out.below⟩

set_option maxHeartbeats 3200000 in
set_option maxRecDepth 100000 in
theorem bounds_B1 (v : Value) (zs : List Int) (w : World) (most : Int) (m : Nat) (hm : bits BinOp.and IntKind.i64 most 1048575 = (m : Int)) (hmb : m ≤ 1048575) (h : By w v zs) (hl : zs.length ≤ 200) (hn4 : 4 < zs.length) (hnm : num4 zs ≤ m) :
    Calls Try.prog 4 #[v, .int .i64 most, .bool false] w fun e w' => e = .returned (.bool true) ∧ Below w.heap.size w w' := by
  obtain ⟨i0, hi, hz0, hz1, hz2⟩ := info_parts info_u
  have Hy := Lib.hid h
  have hq : ((zs.length : Int) == 4) = false := by simp; omega
  obtain ⟨_, hz, a, c, rfl, _, _⟩ := h
  have hz := Lib.hid hz
  go_enter Try.func4, Try.ntmps4
  go_upto_region 6 with (go_at_call 6; refine (alive_any _).mono ?_; rintro e w1 ⟨rfl, hb1⟩)
  have hO1 := (Own.of_below hb1).made 5 1 #[] 0 rfl (Nat.zero_le _)
  have HO1 := Lib.hid hO1
  have Hs := Lib.hid (Hy.out.later hO1.below).1
  have Hb1 := Lib.hid hb1
  clear hO1 hb1
  go_wp2_with (at_builtin; refine wpList_append_src rfl (.tmp 20) (.tmp 21) 26 rfl (.slice (some ⟨w1.heap.size, 0, none⟩) 0 0) 0 [] (.slice a zs.length c) zs.length (bs zs) rfl rfl HO1.out i0 (.int .u8 0) 1 Try.underlying26 hi hz0 hz1 hz2 rfl (by decide) Hs.out (by rw [bs_length, Nat.mul_one]) (by unfold maxLen; omega) (by omega) ?_)
  intro v2 w2 hO2
  have HO2 := Lib.hid (show Own w w2 [rowU v2 zs] from hO2)
  clear hO2
  obtain ⟨a2, k2, c2, rfl⟩ := HO2.out.form3
  go_wp2_with fail
  refine (read_any _ zs w2 (HO2.out.by hz.out) (by omega)).mono ?_
  rintro e w3 ⟨r, v3, rfl, hO3, hp3⟩
  have HO3 := Lib.hid (HO2.out.join hO3)
  have Hp3 := Lib.hid (show Pc ([rowU v3 zs] ++ [rowU (.slice a2 k2 c2) zs]) v3 zs from hp3.mono (by simp))
  clear hO3 hp3 Hs HO1
  obtain ⟨g, o, c', he, _, _, hc⟩ := (Hy.out.later HO3.out.below).cells (by omega)
  injection he with e1 e2 e3
  subst e1 e3
  have Hl4 := Lib.hid (show ∃ z0 z1 z2 z3 ys, zs = z0 :: z1 :: z2 :: z3 :: ys from by
    match zs, hn4 with
    | z0 :: z1 :: z2 :: z3 :: ys, _ => exact ⟨z0, z1, z2, z3, ys, rfl⟩)
  have k0 := hc 0 (by omega)
  have k1 := hc 1 (by omega)
  have k2 := hc 2 (by omega)
  have k3 := hc 3 (by omega)
  have hnum : zs[0] + (256 : Int) * zs[1] + (65536 : Int) * zs[2] + (16777216 : Int) * zs[3] = num4 zs := by
    unfold num4
    simp only [List.getD_eq_getElem?_getD]
    rw [List.getElem?_eq_getElem (show 0 < zs.length by omega), List.getElem?_eq_getElem (show 1 < zs.length by omega), List.getElem?_eq_getElem (show 2 < zs.length by omega), List.getElem?_eq_getElem (show 3 < zs.length by omega)]
    rfl
  have Hnum := Lib.hid hnum
  clear hnum
  have b0 := hz.out zs[0] (List.getElem_mem _)
  have b1 := hz.out zs[1] (List.getElem_mem _)
  have b2 := hz.out zs[2] (List.getElem_mem _)
  have b3 := hz.out zs[3] (List.getElem_mem _)
  simp only [Nat.add_zero] at k0
  clear hc
  generalize zs[0] = z0 at *
  generalize zs[1] = z1 at *
  generalize zs[2] = z2 at *
  generalize zs[3] = z3 at *
  go_wp2_with fail
  go_quiet (fail)
  rw [Hnum.out]
  clear k0 k1 k2 k3 b0 b1 b2 b3 Hnum
  have HN := Lib.hid (show num4 zs = num4 zs from rfl)
  obtain ⟨n, hn⟩ : ∃ n, num4 zs = n := ⟨_, rfl⟩
  rw [hn] at hnm ⊢
  have Hn := Lib.hid hn
  clear hn
  go_wp2_with fail
  refine (rnum_any w _ r v3 false _ zs (m : Int) HO3.out.drewN Hp3.out ⟨by omega, by rw [Hn.out]; omega⟩).mono ?_
  rintro e w4 ⟨v4, rfl, hO4, hp4⟩
  rw [Hn.out]
  have HO4 := Lib.hid hO4
  have Hp4 := Lib.hid hp4
  have hrl : (zs.drop 4).length = zs.length - 4 := List.length_drop
  have Hm := Lib.hid (more_any w w4 r v4 false _ (zs.drop 4) HO4.out Hp4.out)
  have Hd := Lib.hid (done_any w w4 r v4 false _ (zs.drop 4) HO4.out Hp4.out)
  rw [hrl] at Hm Hd
  rw [show decide (0 < zs.length - 4) = true from by simp; omega] at Hm
  rw [show (!false && decide (zs.length - 4 = 0)) = false from by simp; omega] at Hd
  clear hO4 hp4 hrl
  go_wp2_with fail
  refine (good_any w w4 r _ false _ HO4.out).mono ?_
  rintro e w' ⟨rfl, rfl⟩
  go_wp2_with fail
  refine Hm.out.mono ?_
  rintro e w' ⟨rfl, rfl⟩
  go_wp2_with fail
  refine Hd.out.mono ?_
  rintro e w' ⟨rfl, rfl⟩
  go_wp2_with fail
  go_ret
  exact ⟨rfl, HO4.out.below⟩

set_option maxHeartbeats 3200000 in
set_option maxRecDepth 100000 in
theorem bounds_B2 (v : Value) (zs : List Int) (w : World) (most : Int) (m : Nat) (hm : bits BinOp.and IntKind.i64 most 1048575 = (m : Int)) (hmb : m ≤ 1048575) (h : By w v zs) (hl : zs.length ≤ 200) (h44 : zs.length = 4) (hnm : num4 zs ≤ m) :
    Calls Try.prog 4 #[v, .int .i64 most, .bool false] w fun e w' => e = .returned (.bool true) ∧ Below w.heap.size w w' := by
  obtain ⟨i0, hi, hz0, hz1, hz2⟩ := info_parts info_u
  have Hy := Lib.hid h
  have hn4 : 4 ≤ zs.length := by omega
  have hn4' : zs.length ≤ 4 := by omega
  have hq : ((zs.length : Int) == 4) = true := by rw [h44]; rfl
  have hq2 : decide ((4 : Int) < (zs.length : Int)) = false := by simp; omega
  clear h44
  obtain ⟨_, hz, a, c, rfl, _, _⟩ := h
  have hz := Lib.hid hz
  go_enter Try.func4, Try.ntmps4
  go_upto_region 6 with (go_at_call 6; refine (alive_any _).mono ?_; rintro e w1 ⟨rfl, hb1⟩)
  have hO1 := (Own.of_below hb1).made 5 1 #[] 0 rfl (Nat.zero_le _)
  have HO1 := Lib.hid hO1
  have Hs := Lib.hid (Hy.out.later hO1.below).1
  have Hb1 := Lib.hid hb1
  clear hO1 hb1
  go_wp2_with (at_builtin; refine wpList_append_src rfl (.tmp 20) (.tmp 21) 26 rfl (.slice (some ⟨w1.heap.size, 0, none⟩) 0 0) 0 [] (.slice a zs.length c) zs.length (bs zs) rfl rfl HO1.out i0 (.int .u8 0) 1 Try.underlying26 hi hz0 hz1 hz2 rfl (by decide) Hs.out (by rw [bs_length, Nat.mul_one]) (by unfold maxLen; omega) (by omega) ?_)
  intro v2 w2 hO2
  have HO2 := Lib.hid (show Own w w2 [rowU v2 zs] from hO2)
  clear hO2
  obtain ⟨a2, k2, c2, rfl⟩ := HO2.out.form3
  go_wp2_with fail
  refine (read_any _ zs w2 (HO2.out.by hz.out) (by omega)).mono ?_
  rintro e w3 ⟨r, v3, rfl, hO3, hp3⟩
  have HO3 := Lib.hid (HO2.out.join hO3)
  have Hp3 := Lib.hid (show Pc ([rowU v3 zs] ++ [rowU (.slice a2 k2 c2) zs]) v3 zs from hp3.mono (by simp))
  clear hO3 hp3 Hs HO1
  obtain ⟨g, o, c', he, _, _, hc⟩ := (Hy.out.later HO3.out.below).cells (by omega)
  injection he with e1 e2 e3
  subst e1 e3
  have Hl4 := Lib.hid (show ∃ z0 z1 z2 z3 ys, zs = z0 :: z1 :: z2 :: z3 :: ys from by
    match zs, hn4 with
    | z0 :: z1 :: z2 :: z3 :: ys, _ => exact ⟨z0, z1, z2, z3, ys, rfl⟩)
  have k0 := hc 0 (by omega)
  have k1 := hc 1 (by omega)
  have k2 := hc 2 (by omega)
  have k3 := hc 3 (by omega)
  have hnum : zs[0] + (256 : Int) * zs[1] + (65536 : Int) * zs[2] + (16777216 : Int) * zs[3] = num4 zs := by
    unfold num4
    simp only [List.getD_eq_getElem?_getD]
    rw [List.getElem?_eq_getElem (show 0 < zs.length by omega), List.getElem?_eq_getElem (show 1 < zs.length by omega), List.getElem?_eq_getElem (show 2 < zs.length by omega), List.getElem?_eq_getElem (show 3 < zs.length by omega)]
    rfl
  have Hnum := Lib.hid hnum
  clear hnum
  have b0 := hz.out zs[0] (List.getElem_mem _)
  have b1 := hz.out zs[1] (List.getElem_mem _)
  have b2 := hz.out zs[2] (List.getElem_mem _)
  have b3 := hz.out zs[3] (List.getElem_mem _)
  simp only [Nat.add_zero] at k0
  clear hc
  generalize zs[0] = z0 at *
  generalize zs[1] = z1 at *
  generalize zs[2] = z2 at *
  generalize zs[3] = z3 at *
  go_wp2_with fail
  go_quiet (fail)
  rw [Hnum.out]
  clear k0 k1 k2 k3 b0 b1 b2 b3 Hnum
  have HN := Lib.hid (show num4 zs = num4 zs from rfl)
  obtain ⟨n, hn⟩ : ∃ n, num4 zs = n := ⟨_, rfl⟩
  rw [hn] at hnm ⊢
  have Hn := Lib.hid hn
  clear hn
  go_wp2_with fail
  refine (rnum_any w _ r v3 false _ zs (m : Int) HO3.out.drewN Hp3.out ⟨by omega, by rw [Hn.out]; omega⟩).mono ?_
  rintro e w4 ⟨v4, rfl, hO4, hp4⟩
  rw [Hn.out]
  have HO4 := Lib.hid hO4
  have Hp4 := Lib.hid hp4
  have hrl : (zs.drop 4).length = zs.length - 4 := List.length_drop
  have Hm := Lib.hid (more_any w w4 r v4 false _ (zs.drop 4) HO4.out Hp4.out)
  have Hd := Lib.hid (done_any w w4 r v4 false _ (zs.drop 4) HO4.out Hp4.out)
  rw [hrl] at Hm Hd
  rw [show decide (0 < zs.length - 4) = false from by simp; omega] at Hm
  rw [show (!false && decide (zs.length - 4 = 0)) = true from by simp; omega] at Hd
  clear hO4 hp4 hrl
  go_wp2_with fail
  refine (good_any w w4 r _ false _ HO4.out).mono ?_
  rintro e w' ⟨rfl, rfl⟩
  go_wp2_with fail
  refine Hm.out.mono ?_
  rintro e w' ⟨rfl, rfl⟩
  go_wp2_with fail
  refine Hd.out.mono ?_
  rintro e w' ⟨rfl, rfl⟩
  go_wp2_with fail
  go_ret
  exact ⟨rfl, HO4.out.below⟩

set_option maxHeartbeats 3200000 in
set_option maxRecDepth 100000 in
theorem bounds_D (v : Value) (zs : List Int) (w : World) (most : Int) (m : Nat) (hm : bits BinOp.and IntKind.i64 most 1048575 = (m : Int)) (hmb : m ≤ 1048575) (h : By w v zs) (hl : zs.length ≤ 200) (h4 : zs.length < 4) :
    Calls Try.prog 4 #[v, .int .i64 most, .bool true] w fun e w' => e = .returned (.bool true) ∧ Below w.heap.size w w' := by
  obtain ⟨i0, hi, hz0, hz1, hz2⟩ := info_parts info_u
  have Hy := Lib.hid h
  have HNS := Lib.hid (show ¬ isSized zs (m : Int) from fun hs => by obtain ⟨q1, q2, q3⟩ := hs; omega)
  obtain ⟨_, hz, a, c, rfl, _, _⟩ := h
  have hz := Lib.hid hz
  go_enter Try.func4, Try.ntmps4
  go_upto_region 6 with (go_at_call 6; refine (alive_any _).mono ?_; rintro e w1 ⟨rfl, hb1⟩)
  have hO1 := (Own.of_below hb1).made 5 1 #[] 0 rfl (Nat.zero_le _)
  have HO1 := Lib.hid hO1
  have Hs := Lib.hid (Hy.out.later hO1.below).1
  have Hb1 := Lib.hid hb1
  clear hO1 hb1
  go_wp2_with (at_builtin; refine wpList_append_src rfl (.tmp 20) (.tmp 21) 26 rfl (.slice (some ⟨w1.heap.size, 0, none⟩) 0 0) 0 [] (.slice a zs.length c) zs.length (bs zs) rfl rfl HO1.out i0 (.int .u8 0) 1 Try.underlying26 hi hz0 hz1 hz2 rfl (by decide) Hs.out (by rw [bs_length, Nat.mul_one]) (by unfold maxLen; omega) (by omega) ?_)
  intro v2 w2 hO2
  have HO2 := Lib.hid (show Own w w2 [rowU v2 zs] from hO2)
  clear hO2
  obtain ⟨a2, k2, c2, rfl⟩ := HO2.out.form3
  go_wp2_with fail
  refine (read_any _ zs w2 (HO2.out.by hz.out) (by omega)).mono ?_
  rintro e w3 ⟨r, v3, rfl, hO3, hp3⟩
  have HO3 := Lib.hid (HO2.out.join hO3)
  have Hp3 := Lib.hid (show Pc ([rowU v3 zs] ++ [rowU (.slice a2 k2 c2) zs]) v3 zs from hp3.mono (by simp))
  clear hO3 hp3 Hs HO1
  go_wp2_with fail
  refine (rraw_no w w3 r v3 false _ zs (m : Int) HO3.out Hp3.out HNS.out).mono ?_
  rintro e w4 ⟨rfl, hO4⟩
  have HO4 := Lib.hid hO4
  have Hp4 := Lib.hid (Pc.nil ([rowU v3 zs] ++ [rowU (.slice a2 k2 c2) zs]))
  clear hO4
  go_wp2_with fail
  refine (good_any w w4 r _ true _ HO4.out).mono ?_
  rintro e w' ⟨rfl, rfl⟩
  go_wp2_with fail
  refine (done_any w w4 r _ true _ [] HO4.out Hp4.out).mono ?_
  rintro e w' ⟨rfl, rfl⟩
  go_wp2_with fail
  refine (rnum_no w w4 r _ true _ [] 9 HO4.out Hp4.out (by simp)).mono ?_
  rintro e w5 ⟨rfl, hO5⟩
  have HO5 := Lib.hid hO5
  clear hO5
  go_wp2_with fail
  refine (good_any w w5 r _ true _ HO5.out).mono ?_
  rintro e w' ⟨rfl, rfl⟩
  go_wp2_with fail
  refine (err_any w w5 r _ true _ [] HO5.out Hp4.out).mono ?_
  rintro e w' ⟨rfl, rfl⟩
  go_wp2_with fail
  refine (more_any w w5 r _ true _ [] HO5.out Hp4.out).mono ?_
  rintro e w' ⟨rfl, rfl⟩
  go_wp2_with fail
  go_ret
  exact ⟨rfl, HO5.out.below⟩

set_option maxHeartbeats 3200000 in
set_option maxRecDepth 100000 in
theorem bounds_E (v : Value) (zs : List Int) (w : World) (most : Int) (m : Nat) (hm : bits BinOp.and IntKind.i64 most 1048575 = (m : Int)) (hmb : m ≤ 1048575) (h : By w v zs) (hl : zs.length ≤ 200) (hn4 : 4 ≤ zs.length) (hnm : (m : Int) < num4 zs) :
    Calls Try.prog 4 #[v, .int .i64 most, .bool true] w fun e w' => e = .returned (.bool true) ∧ Below w.heap.size w w' := by
  obtain ⟨i0, hi, hz0, hz1, hz2⟩ := info_parts info_u
  have Hy := Lib.hid h
  have HNS := Lib.hid (show ¬ isSized zs (m : Int) from fun hs => by obtain ⟨q1, q2, q3⟩ := hs; omega)
  obtain ⟨_, hz, a, c, rfl, _, _⟩ := h
  have hz := Lib.hid hz
  go_enter Try.func4, Try.ntmps4
  go_upto_region 6 with (go_at_call 6; refine (alive_any _).mono ?_; rintro e w1 ⟨rfl, hb1⟩)
  have hO1 := (Own.of_below hb1).made 5 1 #[] 0 rfl (Nat.zero_le _)
  have HO1 := Lib.hid hO1
  have Hs := Lib.hid (Hy.out.later hO1.below).1
  have Hb1 := Lib.hid hb1
  clear hO1 hb1
  go_wp2_with (at_builtin; refine wpList_append_src rfl (.tmp 20) (.tmp 21) 26 rfl (.slice (some ⟨w1.heap.size, 0, none⟩) 0 0) 0 [] (.slice a zs.length c) zs.length (bs zs) rfl rfl HO1.out i0 (.int .u8 0) 1 Try.underlying26 hi hz0 hz1 hz2 rfl (by decide) Hs.out (by rw [bs_length, Nat.mul_one]) (by unfold maxLen; omega) (by omega) ?_)
  intro v2 w2 hO2
  have HO2 := Lib.hid (show Own w w2 [rowU v2 zs] from hO2)
  clear hO2
  obtain ⟨a2, k2, c2, rfl⟩ := HO2.out.form3
  go_wp2_with fail
  refine (read_any _ zs w2 (HO2.out.by hz.out) (by omega)).mono ?_
  rintro e w3 ⟨r, v3, rfl, hO3, hp3⟩
  have HO3 := Lib.hid (HO2.out.join hO3)
  have Hp3 := Lib.hid (show Pc ([rowU v3 zs] ++ [rowU (.slice a2 k2 c2) zs]) v3 zs from hp3.mono (by simp))
  clear hO3 hp3 Hs HO1
  obtain ⟨g, o, c', he, _, _, hc⟩ := (Hy.out.later HO3.out.below).cells (by omega)
  injection he with e1 e2 e3
  subst e1 e3
  have Hl4 := Lib.hid (show ∃ z0 z1 z2 z3 ys, zs = z0 :: z1 :: z2 :: z3 :: ys from by
    match zs, hn4 with
    | z0 :: z1 :: z2 :: z3 :: ys, _ => exact ⟨z0, z1, z2, z3, ys, rfl⟩)
  have k0 := hc 0 (by omega)
  have k1 := hc 1 (by omega)
  have k2 := hc 2 (by omega)
  have k3 := hc 3 (by omega)
  have hnum : zs[0] + (256 : Int) * zs[1] + (65536 : Int) * zs[2] + (16777216 : Int) * zs[3] = num4 zs := by
    unfold num4
    simp only [List.getD_eq_getElem?_getD]
    rw [List.getElem?_eq_getElem (show 0 < zs.length by omega), List.getElem?_eq_getElem (show 1 < zs.length by omega), List.getElem?_eq_getElem (show 2 < zs.length by omega), List.getElem?_eq_getElem (show 3 < zs.length by omega)]
    rfl
  have Hnum := Lib.hid hnum
  clear hnum
  have b0 := hz.out zs[0] (List.getElem_mem _)
  have b1 := hz.out zs[1] (List.getElem_mem _)
  have b2 := hz.out zs[2] (List.getElem_mem _)
  have b3 := hz.out zs[3] (List.getElem_mem _)
  simp only [Nat.add_zero] at k0
  clear hc
  generalize zs[0] = z0 at *
  generalize zs[1] = z1 at *
  generalize zs[2] = z2 at *
  generalize zs[3] = z3 at *
  go_wp2_with fail
  go_quiet (fail)
  rw [Hnum.out]
  clear k0 k1 k2 k3 b0 b1 b2 b3 Hnum
  have HN := Lib.hid (show num4 zs = num4 zs from rfl)
  obtain ⟨n, hn⟩ : ∃ n, num4 zs = n := ⟨_, rfl⟩
  rw [hn] at hnm ⊢
  have Hn := Lib.hid hn
  clear hn
  go_wp2_with fail
  refine (rraw_no w _ r v3 false _ zs (m : Int) HO3.out.drewN Hp3.out HNS.out).mono ?_
  rintro e w4 ⟨rfl, hO4⟩
  have HO4 := Lib.hid hO4
  have Hp4 := Lib.hid (Pc.nil ([rowU v3 zs] ++ [rowU (.slice a2 k2 c2) zs]))
  clear hO4
  go_wp2_with fail
  refine (good_any w w4 r _ true _ HO4.out).mono ?_
  rintro e w' ⟨rfl, rfl⟩
  go_wp2_with fail
  refine (done_any w w4 r _ true _ [] HO4.out Hp4.out).mono ?_
  rintro e w' ⟨rfl, rfl⟩
  go_wp2_with fail
  refine (rnum_no w w4 r _ true _ [] 9 HO4.out Hp4.out (by simp)).mono ?_
  rintro e w5 ⟨rfl, hO5⟩
  have HO5 := Lib.hid hO5
  clear hO5
  go_wp2_with fail
  refine (good_any w w5 r _ true _ HO5.out).mono ?_
  rintro e w' ⟨rfl, rfl⟩
  go_wp2_with fail
  refine (err_any w w5 r _ true _ [] HO5.out Hp4.out).mono ?_
  rintro e w' ⟨rfl, rfl⟩
  go_wp2_with fail
  refine (more_any w w5 r _ true _ [] HO5.out Hp4.out).mono ?_
  rintro e w' ⟨rfl, rfl⟩
  go_wp2_with fail
  go_ret
  exact ⟨rfl, HO5.out.below⟩

set_option maxHeartbeats 3200000 in
set_option maxRecDepth 100000 in
theorem bounds_F (v : Value) (zs : List Int) (w : World) (most : Int) (m : Nat) (hm : bits BinOp.and IntKind.i64 most 1048575 = (m : Int)) (hmb : m ≤ 1048575) (h : By w v zs) (hl : zs.length ≤ 200) (hn4 : 4 ≤ zs.length) (hnm : num4 zs ≤ (m : Int)) (hnl : (zs.length : Int) - 4 < num4 zs) :
    Calls Try.prog 4 #[v, .int .i64 most, .bool true] w fun e w' => e = .returned (.bool true) ∧ Below w.heap.size w w' := by
  obtain ⟨i0, hi, hz0, hz1, hz2⟩ := info_parts info_u
  have Hy := Lib.hid h
  have HNS := Lib.hid (show ¬ isSized zs (m : Int) from fun hs => by obtain ⟨q1, q2, q3⟩ := hs; omega)
  obtain ⟨_, hz, a, c, rfl, _, _⟩ := h
  have hz := Lib.hid hz
  go_enter Try.func4, Try.ntmps4
  go_upto_region 6 with (go_at_call 6; refine (alive_any _).mono ?_; rintro e w1 ⟨rfl, hb1⟩)
  have hO1 := (Own.of_below hb1).made 5 1 #[] 0 rfl (Nat.zero_le _)
  have HO1 := Lib.hid hO1
  have Hs := Lib.hid (Hy.out.later hO1.below).1
  have Hb1 := Lib.hid hb1
  clear hO1 hb1
  go_wp2_with (at_builtin; refine wpList_append_src rfl (.tmp 20) (.tmp 21) 26 rfl (.slice (some ⟨w1.heap.size, 0, none⟩) 0 0) 0 [] (.slice a zs.length c) zs.length (bs zs) rfl rfl HO1.out i0 (.int .u8 0) 1 Try.underlying26 hi hz0 hz1 hz2 rfl (by decide) Hs.out (by rw [bs_length, Nat.mul_one]) (by unfold maxLen; omega) (by omega) ?_)
  intro v2 w2 hO2
  have HO2 := Lib.hid (show Own w w2 [rowU v2 zs] from hO2)
  clear hO2
  obtain ⟨a2, k2, c2, rfl⟩ := HO2.out.form3
  go_wp2_with fail
  refine (read_any _ zs w2 (HO2.out.by hz.out) (by omega)).mono ?_
  rintro e w3 ⟨r, v3, rfl, hO3, hp3⟩
  have HO3 := Lib.hid (HO2.out.join hO3)
  have Hp3 := Lib.hid (show Pc ([rowU v3 zs] ++ [rowU (.slice a2 k2 c2) zs]) v3 zs from hp3.mono (by simp))
  clear hO3 hp3 Hs HO1
  obtain ⟨g, o, c', he, _, _, hc⟩ := (Hy.out.later HO3.out.below).cells (by omega)
  injection he with e1 e2 e3
  subst e1 e3
  have Hl4 := Lib.hid (show ∃ z0 z1 z2 z3 ys, zs = z0 :: z1 :: z2 :: z3 :: ys from by
    match zs, hn4 with
    | z0 :: z1 :: z2 :: z3 :: ys, _ => exact ⟨z0, z1, z2, z3, ys, rfl⟩)
  have k0 := hc 0 (by omega)
  have k1 := hc 1 (by omega)
  have k2 := hc 2 (by omega)
  have k3 := hc 3 (by omega)
  have hnum : zs[0] + (256 : Int) * zs[1] + (65536 : Int) * zs[2] + (16777216 : Int) * zs[3] = num4 zs := by
    unfold num4
    simp only [List.getD_eq_getElem?_getD]
    rw [List.getElem?_eq_getElem (show 0 < zs.length by omega), List.getElem?_eq_getElem (show 1 < zs.length by omega), List.getElem?_eq_getElem (show 2 < zs.length by omega), List.getElem?_eq_getElem (show 3 < zs.length by omega)]
    rfl
  have Hnum := Lib.hid hnum
  clear hnum
  have b0 := hz.out zs[0] (List.getElem_mem _)
  have b1 := hz.out zs[1] (List.getElem_mem _)
  have b2 := hz.out zs[2] (List.getElem_mem _)
  have b3 := hz.out zs[3] (List.getElem_mem _)
  simp only [Nat.add_zero] at k0
  clear hc
  generalize zs[0] = z0 at *
  generalize zs[1] = z1 at *
  generalize zs[2] = z2 at *
  generalize zs[3] = z3 at *
  go_wp2_with fail
  go_quiet (fail)
  rw [Hnum.out]
  clear k0 k1 k2 k3 b0 b1 b2 b3 Hnum
  have HN := Lib.hid (show num4 zs = num4 zs from rfl)
  obtain ⟨n, hn⟩ : ∃ n, num4 zs = n := ⟨_, rfl⟩
  rw [hn] at hnm hnl ⊢
  have Hn := Lib.hid hn
  clear hn
  go_wp2_with fail
  refine (rraw_no w _ r v3 false _ zs (m : Int) HO3.out.drewN Hp3.out HNS.out).mono ?_
  rintro e w4 ⟨rfl, hO4⟩
  have HO4 := Lib.hid hO4
  have Hp4 := Lib.hid (Pc.nil ([rowU v3 zs] ++ [rowU (.slice a2 k2 c2) zs]))
  clear hO4
  go_wp2_with fail
  refine (good_any w w4 r _ true _ HO4.out).mono ?_
  rintro e w' ⟨rfl, rfl⟩
  go_wp2_with fail
  refine (done_any w w4 r _ true _ [] HO4.out Hp4.out).mono ?_
  rintro e w' ⟨rfl, rfl⟩
  go_wp2_with fail
  refine (rnum_no w w4 r _ true _ [] 9 HO4.out Hp4.out (by simp)).mono ?_
  rintro e w5 ⟨rfl, hO5⟩
  have HO5 := Lib.hid hO5
  clear hO5
  go_wp2_with fail
  refine (good_any w w5 r _ true _ HO5.out).mono ?_
  rintro e w' ⟨rfl, rfl⟩
  go_wp2_with fail
  refine (err_any w w5 r _ true _ [] HO5.out Hp4.out).mono ?_
  rintro e w' ⟨rfl, rfl⟩
  go_wp2_with fail
  refine (more_any w w5 r _ true _ [] HO5.out Hp4.out).mono ?_
  rintro e w' ⟨rfl, rfl⟩
  go_wp2_with fail
  go_ret
  exact ⟨rfl, HO5.out.below⟩

set_option maxHeartbeats 3200000 in
set_option maxRecDepth 100000 in
theorem bounds_G (v : Value) (zs : List Int) (w : World) (most : Int) (m : Nat) (hm : bits BinOp.and IntKind.i64 most 1048575 = (m : Int)) (hmb : m ≤ 1048575) (h : By w v zs) (hl : zs.length ≤ 200) (hn4 : 4 ≤ zs.length) (hnm : num4 zs ≤ (m : Int)) (hnl : num4 zs < (zs.length : Int) - 4) :
    Calls Try.prog 4 #[v, .int .i64 most, .bool true] w fun e w' => e = .returned (.bool true) ∧ Below w.heap.size w w' := by
  obtain ⟨i0, hi, hz0, hz1, hz2⟩ := info_parts info_u
  have Hy := Lib.hid h
  have HS := Lib.hid (show isSized zs (m : Int) from ⟨hn4, hnm, by omega⟩)
  have HBL := Lib.hid (bodyOf_length zs _ HS.out h.2.1)
  have hn0 := (num4_bounds zs h.2.1).1
  obtain ⟨_, hz, a, c, rfl, _, _⟩ := h
  have hz := Lib.hid hz
  go_enter Try.func4, Try.ntmps4
  go_upto_region 6 with (go_at_call 6; refine (alive_any _).mono ?_; rintro e w1 ⟨rfl, hb1⟩)
  have hO1 := (Own.of_below hb1).made 5 1 #[] 0 rfl (Nat.zero_le _)
  have HO1 := Lib.hid hO1
  have Hs := Lib.hid (Hy.out.later hO1.below).1
  have Hb1 := Lib.hid hb1
  clear hO1 hb1
  go_wp2_with (at_builtin; refine wpList_append_src rfl (.tmp 20) (.tmp 21) 26 rfl (.slice (some ⟨w1.heap.size, 0, none⟩) 0 0) 0 [] (.slice a zs.length c) zs.length (bs zs) rfl rfl HO1.out i0 (.int .u8 0) 1 Try.underlying26 hi hz0 hz1 hz2 rfl (by decide) Hs.out (by rw [bs_length, Nat.mul_one]) (by unfold maxLen; omega) (by omega) ?_)
  intro v2 w2 hO2
  have HO2 := Lib.hid (show Own w w2 [rowU v2 zs] from hO2)
  clear hO2
  obtain ⟨a2, k2, c2, rfl⟩ := HO2.out.form3
  go_wp2_with fail
  refine (read_any _ zs w2 (HO2.out.by hz.out) (by omega)).mono ?_
  rintro e w3 ⟨r, v3, rfl, hO3, hp3⟩
  have HO3 := Lib.hid (HO2.out.join hO3)
  have Hp3 := Lib.hid (show Pc ([rowU v3 zs] ++ [rowU (.slice a2 k2 c2) zs]) v3 zs from hp3.mono (by simp))
  clear hO3 hp3 Hs HO1
  obtain ⟨g, o, c', he, _, _, hc⟩ := (Hy.out.later HO3.out.below).cells (by omega)
  injection he with e1 e2 e3
  subst e1 e3
  have Hl4 := Lib.hid (show ∃ z0 z1 z2 z3 ys, zs = z0 :: z1 :: z2 :: z3 :: ys from by
    match zs, hn4 with
    | z0 :: z1 :: z2 :: z3 :: ys, _ => exact ⟨z0, z1, z2, z3, ys, rfl⟩)
  have k0 := hc 0 (by omega)
  have k1 := hc 1 (by omega)
  have k2 := hc 2 (by omega)
  have k3 := hc 3 (by omega)
  have hnum : zs[0] + (256 : Int) * zs[1] + (65536 : Int) * zs[2] + (16777216 : Int) * zs[3] = num4 zs := by
    unfold num4
    simp only [List.getD_eq_getElem?_getD]
    rw [List.getElem?_eq_getElem (show 0 < zs.length by omega), List.getElem?_eq_getElem (show 1 < zs.length by omega), List.getElem?_eq_getElem (show 2 < zs.length by omega), List.getElem?_eq_getElem (show 3 < zs.length by omega)]
    rfl
  have Hnum := Lib.hid hnum
  clear hnum
  have b0 := hz.out zs[0] (List.getElem_mem _)
  have b1 := hz.out zs[1] (List.getElem_mem _)
  have b2 := hz.out zs[2] (List.getElem_mem _)
  have b3 := hz.out zs[3] (List.getElem_mem _)
  simp only [Nat.add_zero] at k0
  clear hc
  generalize zs[0] = z0 at *
  generalize zs[1] = z1 at *
  generalize zs[2] = z2 at *
  generalize zs[3] = z3 at *
  go_wp2_with fail
  go_quiet (fail)
  rw [Hnum.out]
  clear k0 k1 k2 k3 b0 b1 b2 b3 Hnum
  obtain ⟨n, hn⟩ : ∃ n : Nat, num4 zs = n := ⟨(num4 zs).toNat, by omega⟩
  rw [hn] at hnm hnl hn0 HBL ⊢
  have Hn := Lib.hid hn
  clear hn
  have hq1 : decide ((n : Int) ≤ (zs.length : Int) - 4) = true := by simp; omega
  have hq2 : ((n : Int) == (zs.length : Int) - 4) = false := by simp; omega
  have hc4 : 4 < c := by omega
  go_wp2_with fail
  refine (rraw_yes w _ r v3 false _ zs (m : Int) HO3.out.drewN Hp3.out HS.out).mono ?_
  rintro e w4 ⟨v4, v5, rfl, hO4, hp4⟩
  obtain ⟨a4, k4, c4, rfl⟩ := hO4.form3
  have HO4 := Lib.hid hO4
  have HO4s := Lib.hid hO4.swap
  have hrl : (restOf zs).length = zs.length - 4 - n := by unfold restOf; rw [Hn.out, Int.toNat_natCast, List.length_drop, List.length_drop]
  have Hd := Lib.hid (done_any w w4 r v5 false _ (restOf zs) HO4s.out (hp4.cons _))
  rw [hrl, show (!false && decide (zs.length - 4 - n = 0)) = false from by simp; omega] at Hd
  have hbody : bodyOf zs = (zs.drop 4).take n := by unfold bodyOf; rw [Hn.out, Int.toNat_natCast]
  have Hbody := Lib.hid hbody
  have hlen : (bodyOf zs).length ≤ 200 := by have := HBL.out; omega
  have Hlen := Lib.hid hlen
  clear hO4 hp4 hrl hbody hlen
  go_wp2_with fail
  refine (good_any w w4 r _ false _ HO4s.out).mono ?_
  rintro e w' ⟨rfl, rfl⟩
  go_wp2_with fail
  refine Hd.out.mono ?_
  rintro e w' ⟨rfl, rfl⟩
  go_wp2_with fail
  refine (same_yes _ _ (bodyOf zs) w4 (HO4.out.by (by rw [Hbody.out]; exact (hz.out.drop 4).take n)) (by rw [Hbody.out]; exact (Hy.out.later HO4.out.below).sub 4 n (by omega) (c - 4) (by omega) (by omega))).mono ?_
  rintro e w' ⟨rfl, rfl⟩
  go_wp2_with fail
  go_ret
  exact ⟨rfl, HO4.out.below⟩

set_option maxHeartbeats 3200000 in
set_option maxRecDepth 100000 in
theorem bounds_H (v : Value) (zs : List Int) (w : World) (most : Int) (m : Nat) (hm : bits BinOp.and IntKind.i64 most 1048575 = (m : Int)) (hmb : m ≤ 1048575) (h : By w v zs) (hl : zs.length ≤ 200) (hn4 : 4 < zs.length) (hnm : num4 zs ≤ (m : Int)) (hnl : num4 zs = (zs.length : Int) - 4) :
    Calls Try.prog 4 #[v, .int .i64 most, .bool true] w fun e w' => e = .returned (.bool true) ∧ Below w.heap.size w w' := by
  obtain ⟨i0, hi, hz0, hz1, hz2⟩ := info_parts info_u
  have Hy := Lib.hid h
  have HS := Lib.hid (show isSized zs (m : Int) from ⟨by omega, hnm, by omega⟩)
  have HBL := Lib.hid (bodyOf_length zs _ HS.out h.2.1)
  have hn0 := (num4_bounds zs h.2.1).1
  have hnl2 : (zs.length : Int) - 4 ≤ num4 zs := by omega
  have hnl3 : num4 zs ≤ (zs.length : Int) - 4 := by omega
  clear hnl
  obtain ⟨_, hz, a, c, rfl, _, _⟩ := h
  have hz := Lib.hid hz
  go_enter Try.func4, Try.ntmps4
  go_upto_region 6 with (go_at_call 6; refine (alive_any _).mono ?_; rintro e w1 ⟨rfl, hb1⟩)
  have hO1 := (Own.of_below hb1).made 5 1 #[] 0 rfl (Nat.zero_le _)
  have HO1 := Lib.hid hO1
  have Hs := Lib.hid (Hy.out.later hO1.below).1
  have Hb1 := Lib.hid hb1
  clear hO1 hb1
  go_wp2_with (at_builtin; refine wpList_append_src rfl (.tmp 20) (.tmp 21) 26 rfl (.slice (some ⟨w1.heap.size, 0, none⟩) 0 0) 0 [] (.slice a zs.length c) zs.length (bs zs) rfl rfl HO1.out i0 (.int .u8 0) 1 Try.underlying26 hi hz0 hz1 hz2 rfl (by decide) Hs.out (by rw [bs_length, Nat.mul_one]) (by unfold maxLen; omega) (by omega) ?_)
  intro v2 w2 hO2
  have HO2 := Lib.hid (show Own w w2 [rowU v2 zs] from hO2)
  clear hO2
  obtain ⟨a2, k2, c2, rfl⟩ := HO2.out.form3
  go_wp2_with fail
  refine (read_any _ zs w2 (HO2.out.by hz.out) (by omega)).mono ?_
  rintro e w3 ⟨r, v3, rfl, hO3, hp3⟩
  have HO3 := Lib.hid (HO2.out.join hO3)
  have Hp3 := Lib.hid (show Pc ([rowU v3 zs] ++ [rowU (.slice a2 k2 c2) zs]) v3 zs from hp3.mono (by simp))
  clear hO3 hp3 Hs HO1
  obtain ⟨g, o, c', he, _, _, hc⟩ := (Hy.out.later HO3.out.below).cells (by omega)
  injection he with e1 e2 e3
  subst e1 e3
  have Hl4 := Lib.hid (show ∃ z0 z1 z2 z3 ys, zs = z0 :: z1 :: z2 :: z3 :: ys from by
    match zs, hn4 with
    | z0 :: z1 :: z2 :: z3 :: ys, _ => exact ⟨z0, z1, z2, z3, ys, rfl⟩)
  have k0 := hc 0 (by omega)
  have k1 := hc 1 (by omega)
  have k2 := hc 2 (by omega)
  have k3 := hc 3 (by omega)
  have hnum : zs[0] + (256 : Int) * zs[1] + (65536 : Int) * zs[2] + (16777216 : Int) * zs[3] = num4 zs := by
    unfold num4
    simp only [List.getD_eq_getElem?_getD]
    rw [List.getElem?_eq_getElem (show 0 < zs.length by omega), List.getElem?_eq_getElem (show 1 < zs.length by omega), List.getElem?_eq_getElem (show 2 < zs.length by omega), List.getElem?_eq_getElem (show 3 < zs.length by omega)]
    rfl
  have Hnum := Lib.hid hnum
  clear hnum
  have b0 := hz.out zs[0] (List.getElem_mem _)
  have b1 := hz.out zs[1] (List.getElem_mem _)
  have b2 := hz.out zs[2] (List.getElem_mem _)
  have b3 := hz.out zs[3] (List.getElem_mem _)
  simp only [Nat.add_zero] at k0
  clear hc
  generalize zs[0] = z0 at *
  generalize zs[1] = z1 at *
  generalize zs[2] = z2 at *
  generalize zs[3] = z3 at *
  go_wp2_with fail
  go_quiet (fail)
  rw [Hnum.out]
  clear k0 k1 k2 k3 b0 b1 b2 b3 Hnum
  obtain ⟨n, hn⟩ : ∃ n : Nat, num4 zs = n := ⟨(num4 zs).toNat, by omega⟩
  rw [hn] at hnm hnl2 hnl3 hn0 HBL ⊢
  have Hn := Lib.hid hn
  clear hn
  have hq1 : decide ((n : Int) ≤ (zs.length : Int) - 4) = true := by simp; omega
  have hq2 : ((n : Int) == (zs.length : Int) - 4) = true := by simp; omega
  have hc4 : 4 < c := by omega
  go_wp2_with fail
  refine (rraw_yes w _ r v3 false _ zs (m : Int) HO3.out.drewN Hp3.out HS.out).mono ?_
  rintro e w4 ⟨v4, v5, rfl, hO4, hp4⟩
  obtain ⟨a4, k4, c4, rfl⟩ := hO4.form3
  have HO4 := Lib.hid hO4
  have HO4s := Lib.hid hO4.swap
  have hrl : (restOf zs).length = zs.length - 4 - n := by unfold restOf; rw [Hn.out, Int.toNat_natCast, List.length_drop, List.length_drop]
  have Hd := Lib.hid (done_any w w4 r v5 false _ (restOf zs) HO4s.out (hp4.cons _))
  rw [hrl, show (!false && decide (zs.length - 4 - n = 0)) = true from by simp; omega] at Hd
  have hbody : bodyOf zs = (zs.drop 4).take n := by unfold bodyOf; rw [Hn.out, Int.toNat_natCast]
  have Hbody := Lib.hid hbody
  have hlen : (bodyOf zs).length ≤ 200 := by have := HBL.out; omega
  have Hlen := Lib.hid hlen
  clear hO4 hp4 hrl hbody hlen
  go_wp2_with fail
  refine (good_any w w4 r _ false _ HO4s.out).mono ?_
  rintro e w' ⟨rfl, rfl⟩
  go_wp2_with fail
  refine Hd.out.mono ?_
  rintro e w' ⟨rfl, rfl⟩
  go_wp2_with fail
  refine (same_yes _ _ (bodyOf zs) w4 (HO4.out.by (by rw [Hbody.out]; exact (hz.out.drop 4).take n)) (by rw [Hbody.out]; exact (Hy.out.later HO4.out.below).sub 4 n (by omega) (c - 4) (by omega) (by omega))).mono ?_
  rintro e w' ⟨rfl, rfl⟩
  go_wp2_with fail
  go_ret
  exact ⟨rfl, HO4.out.below⟩

set_option maxHeartbeats 3200000 in
set_option maxRecDepth 100000 in
theorem bounds_I (v : Value) (zs : List Int) (w : World) (most : Int) (m : Nat) (hm : bits BinOp.and IntKind.i64 most 1048575 = (m : Int)) (hmb : m ≤ 1048575) (h : By w v zs) (hl : zs.length ≤ 200) (h44 : zs.length = 4) (hnm : num4 zs ≤ (m : Int)) (hnl : num4 zs = (zs.length : Int) - 4) (hcb : ∃ a, v = .slice a zs.length 4) :
    Calls Try.prog 4 #[v, .int .i64 most, .bool true] w fun e w' => e = .returned (.bool true) ∧ Below w.heap.size w w' := by
  obtain ⟨i0, hi, hz0, hz1, hz2⟩ := info_parts info_u
  have Hy := Lib.hid h
  have hn4 : 4 ≤ zs.length := by omega
  have hn4' : zs.length ≤ 4 := by omega
  clear h44
  have HS := Lib.hid (show isSized zs (m : Int) from ⟨by omega, hnm, by omega⟩)
  have HBL := Lib.hid (bodyOf_length zs _ HS.out h.2.1)
  have hn0 := (num4_bounds zs h.2.1).1
  have hnl2 : (zs.length : Int) - 4 ≤ num4 zs := by omega
  have hnl3 : num4 zs ≤ (zs.length : Int) - 4 := by omega
  clear hnl
  have HCB := Lib.hid hcb
  clear hcb
  obtain ⟨_, hz, a, c, rfl, _, _⟩ := h
  have hz := Lib.hid hz
  go_enter Try.func4, Try.ntmps4
  go_upto_region 6 with (go_at_call 6; refine (alive_any _).mono ?_; rintro e w1 ⟨rfl, hb1⟩)
  have hO1 := (Own.of_below hb1).made 5 1 #[] 0 rfl (Nat.zero_le _)
  have HO1 := Lib.hid hO1
  have Hs := Lib.hid (Hy.out.later hO1.below).1
  have Hb1 := Lib.hid hb1
  clear hO1 hb1
  go_wp2_with (at_builtin; refine wpList_append_src rfl (.tmp 20) (.tmp 21) 26 rfl (.slice (some ⟨w1.heap.size, 0, none⟩) 0 0) 0 [] (.slice a zs.length c) zs.length (bs zs) rfl rfl HO1.out i0 (.int .u8 0) 1 Try.underlying26 hi hz0 hz1 hz2 rfl (by decide) Hs.out (by rw [bs_length, Nat.mul_one]) (by unfold maxLen; omega) (by omega) ?_)
  intro v2 w2 hO2
  have HO2 := Lib.hid (show Own w w2 [rowU v2 zs] from hO2)
  clear hO2
  obtain ⟨a2, k2, c2, rfl⟩ := HO2.out.form3
  go_wp2_with fail
  refine (read_any _ zs w2 (HO2.out.by hz.out) (by omega)).mono ?_
  rintro e w3 ⟨r, v3, rfl, hO3, hp3⟩
  have HO3 := Lib.hid (HO2.out.join hO3)
  have Hp3 := Lib.hid (show Pc ([rowU v3 zs] ++ [rowU (.slice a2 k2 c2) zs]) v3 zs from hp3.mono (by simp))
  clear hO3 hp3 Hs HO1
  obtain ⟨g, o, c', he, _, _, hc⟩ := (Hy.out.later HO3.out.below).cells (by omega)
  injection he with e1 e2 e3
  subst e1 e3
  have Hl4 := Lib.hid (show ∃ z0 z1 z2 z3 ys, zs = z0 :: z1 :: z2 :: z3 :: ys from by
    match zs, hn4 with
    | z0 :: z1 :: z2 :: z3 :: ys, _ => exact ⟨z0, z1, z2, z3, ys, rfl⟩)
  have k0 := hc 0 (by omega)
  have k1 := hc 1 (by omega)
  have k2 := hc 2 (by omega)
  have k3 := hc 3 (by omega)
  have hnum : zs[0] + (256 : Int) * zs[1] + (65536 : Int) * zs[2] + (16777216 : Int) * zs[3] = num4 zs := by
    unfold num4
    simp only [List.getD_eq_getElem?_getD]
    rw [List.getElem?_eq_getElem (show 0 < zs.length by omega), List.getElem?_eq_getElem (show 1 < zs.length by omega), List.getElem?_eq_getElem (show 2 < zs.length by omega), List.getElem?_eq_getElem (show 3 < zs.length by omega)]
    rfl
  have Hnum := Lib.hid hnum
  clear hnum
  have b0 := hz.out zs[0] (List.getElem_mem _)
  have b1 := hz.out zs[1] (List.getElem_mem _)
  have b2 := hz.out zs[2] (List.getElem_mem _)
  have b3 := hz.out zs[3] (List.getElem_mem _)
  simp only [Nat.add_zero] at k0
  clear hc
  generalize zs[0] = z0 at *
  generalize zs[1] = z1 at *
  generalize zs[2] = z2 at *
  generalize zs[3] = z3 at *
  go_wp2_with fail
  go_quiet (fail)
  rw [Hnum.out]
  clear k0 k1 k2 k3 b0 b1 b2 b3 Hnum
  obtain ⟨n, hn⟩ : ∃ n : Nat, num4 zs = n := ⟨(num4 zs).toNat, by omega⟩
  rw [hn] at hnm hnl2 hnl3 hn0 HBL ⊢
  have Hn := Lib.hid hn
  clear hn
  have hq1 : decide ((n : Int) ≤ (zs.length : Int) - 4) = true := by simp; omega
  have hq2 : ((n : Int) == (zs.length : Int) - 4) = true := by simp; omega
  obtain rfl : c = 4 := by obtain ⟨q, hq⟩ := HCB.out; injection hq
  go_wp2_with fail
  refine (rraw_yes w _ r v3 false _ zs (m : Int) HO3.out.drewN Hp3.out HS.out).mono ?_
  rintro e w4 ⟨v4, v5, rfl, hO4, hp4⟩
  obtain ⟨a4, k4, c4, rfl⟩ := hO4.form3
  have HO4 := Lib.hid hO4
  have HO4s := Lib.hid hO4.swap
  have hrl : (restOf zs).length = zs.length - 4 - n := by unfold restOf; rw [Hn.out, Int.toNat_natCast, List.length_drop, List.length_drop]
  have Hd := Lib.hid (done_any w w4 r v5 false _ (restOf zs) HO4s.out (hp4.cons _))
  rw [hrl, show (!false && decide (zs.length - 4 - n = 0)) = true from by simp; omega] at Hd
  have hbody : bodyOf zs = (zs.drop 4).take n := by unfold bodyOf; rw [Hn.out, Int.toNat_natCast]
  have Hbody := Lib.hid hbody
  have hlen : (bodyOf zs).length ≤ 200 := by have := HBL.out; omega
  have Hlen := Lib.hid hlen
  clear hO4 hp4 hrl hbody hlen
  go_wp2_with fail
  refine (good_any w w4 r _ false _ HO4s.out).mono ?_
  rintro e w' ⟨rfl, rfl⟩
  go_wp2_with fail
  refine Hd.out.mono ?_
  rintro e w' ⟨rfl, rfl⟩
  go_wp2_with fail
  refine (same_yes _ _ (bodyOf zs) w4 (HO4.out.by (by rw [Hbody.out]; exact (hz.out.drop 4).take n)) (by rw [Hbody.out]; exact By.empty' _ _ n _ (by omega))).mono ?_
  rintro e w' ⟨rfl, rfl⟩
  go_wp2_with fail
  go_ret
  exact ⟨rfl, HO4.out.below⟩

set_option maxHeartbeats 3200000 in
set_option maxRecDepth 100000 in
theorem bounds_J (v : Value) (zs : List Int) (w : World) (most : Int) (m : Nat) (hm : bits BinOp.and IntKind.i64 most 1048575 = (m : Int)) (hmb : m ≤ 1048575) (h : By w v zs) (hl : zs.length ≤ 200) (h44 : zs.length = 4) (hnm : num4 zs ≤ (m : Int)) (hnl : num4 zs = (zs.length : Int) - 4) (hcb : ∃ a c, v = .slice a zs.length c ∧ 4 < c) :
    Calls Try.prog 4 #[v, .int .i64 most, .bool true] w fun e w' => e = .returned (.bool true) ∧ Below w.heap.size w w' := by
  obtain ⟨i0, hi, hz0, hz1, hz2⟩ := info_parts info_u
  have Hy := Lib.hid h
  have hn4 : 4 ≤ zs.length := by omega
  have hn4' : zs.length ≤ 4 := by omega
  clear h44
  have HS := Lib.hid (show isSized zs (m : Int) from ⟨by omega, hnm, by omega⟩)
  have HBL := Lib.hid (bodyOf_length zs _ HS.out h.2.1)
  have hn0 := (num4_bounds zs h.2.1).1
  have hnl2 : (zs.length : Int) - 4 ≤ num4 zs := by omega
  have hnl3 : num4 zs ≤ (zs.length : Int) - 4 := by omega
  clear hnl
  have HCB := Lib.hid hcb
  clear hcb
  obtain ⟨_, hz, a, c, rfl, _, _⟩ := h
  have hz := Lib.hid hz
  go_enter Try.func4, Try.ntmps4
  go_upto_region 6 with (go_at_call 6; refine (alive_any _).mono ?_; rintro e w1 ⟨rfl, hb1⟩)
  have hO1 := (Own.of_below hb1).made 5 1 #[] 0 rfl (Nat.zero_le _)
  have HO1 := Lib.hid hO1
  have Hs := Lib.hid (Hy.out.later hO1.below).1
  have Hb1 := Lib.hid hb1
  clear hO1 hb1
  go_wp2_with (at_builtin; refine wpList_append_src rfl (.tmp 20) (.tmp 21) 26 rfl (.slice (some ⟨w1.heap.size, 0, none⟩) 0 0) 0 [] (.slice a zs.length c) zs.length (bs zs) rfl rfl HO1.out i0 (.int .u8 0) 1 Try.underlying26 hi hz0 hz1 hz2 rfl (by decide) Hs.out (by rw [bs_length, Nat.mul_one]) (by unfold maxLen; omega) (by omega) ?_)
  intro v2 w2 hO2
  have HO2 := Lib.hid (show Own w w2 [rowU v2 zs] from hO2)
  clear hO2
  obtain ⟨a2, k2, c2, rfl⟩ := HO2.out.form3
  go_wp2_with fail
  refine (read_any _ zs w2 (HO2.out.by hz.out) (by omega)).mono ?_
  rintro e w3 ⟨r, v3, rfl, hO3, hp3⟩
  have HO3 := Lib.hid (HO2.out.join hO3)
  have Hp3 := Lib.hid (show Pc ([rowU v3 zs] ++ [rowU (.slice a2 k2 c2) zs]) v3 zs from hp3.mono (by simp))
  clear hO3 hp3 Hs HO1
  obtain ⟨g, o, c', he, _, _, hc⟩ := (Hy.out.later HO3.out.below).cells (by omega)
  injection he with e1 e2 e3
  subst e1 e3
  have Hl4 := Lib.hid (show ∃ z0 z1 z2 z3 ys, zs = z0 :: z1 :: z2 :: z3 :: ys from by
    match zs, hn4 with
    | z0 :: z1 :: z2 :: z3 :: ys, _ => exact ⟨z0, z1, z2, z3, ys, rfl⟩)
  have k0 := hc 0 (by omega)
  have k1 := hc 1 (by omega)
  have k2 := hc 2 (by omega)
  have k3 := hc 3 (by omega)
  have hnum : zs[0] + (256 : Int) * zs[1] + (65536 : Int) * zs[2] + (16777216 : Int) * zs[3] = num4 zs := by
    unfold num4
    simp only [List.getD_eq_getElem?_getD]
    rw [List.getElem?_eq_getElem (show 0 < zs.length by omega), List.getElem?_eq_getElem (show 1 < zs.length by omega), List.getElem?_eq_getElem (show 2 < zs.length by omega), List.getElem?_eq_getElem (show 3 < zs.length by omega)]
    rfl
  have Hnum := Lib.hid hnum
  clear hnum
  have b0 := hz.out zs[0] (List.getElem_mem _)
  have b1 := hz.out zs[1] (List.getElem_mem _)
  have b2 := hz.out zs[2] (List.getElem_mem _)
  have b3 := hz.out zs[3] (List.getElem_mem _)
  simp only [Nat.add_zero] at k0
  clear hc
  generalize zs[0] = z0 at *
  generalize zs[1] = z1 at *
  generalize zs[2] = z2 at *
  generalize zs[3] = z3 at *
  go_wp2_with fail
  go_quiet (fail)
  rw [Hnum.out]
  clear k0 k1 k2 k3 b0 b1 b2 b3 Hnum
  obtain ⟨n, hn⟩ : ∃ n : Nat, num4 zs = n := ⟨(num4 zs).toNat, by omega⟩
  rw [hn] at hnm hnl2 hnl3 hn0 HBL ⊢
  have Hn := Lib.hid hn
  clear hn
  have hq1 : decide ((n : Int) ≤ (zs.length : Int) - 4) = true := by simp; omega
  have hq2 : ((n : Int) == (zs.length : Int) - 4) = true := by simp; omega
  have hc4 : 4 < c := by obtain ⟨q, c', hq, hq2⟩ := HCB.out; injection hq; omega
  go_wp2_with fail
  refine (rraw_yes w _ r v3 false _ zs (m : Int) HO3.out.drewN Hp3.out HS.out).mono ?_
  rintro e w4 ⟨v4, v5, rfl, hO4, hp4⟩
  obtain ⟨a4, k4, c4, rfl⟩ := hO4.form3
  have HO4 := Lib.hid hO4
  have HO4s := Lib.hid hO4.swap
  have hrl : (restOf zs).length = zs.length - 4 - n := by unfold restOf; rw [Hn.out, Int.toNat_natCast, List.length_drop, List.length_drop]
  have Hd := Lib.hid (done_any w w4 r v5 false _ (restOf zs) HO4s.out (hp4.cons _))
  rw [hrl, show (!false && decide (zs.length - 4 - n = 0)) = true from by simp; omega] at Hd
  have hbody : bodyOf zs = (zs.drop 4).take n := by unfold bodyOf; rw [Hn.out, Int.toNat_natCast]
  have Hbody := Lib.hid hbody
  have hlen : (bodyOf zs).length ≤ 200 := by have := HBL.out; omega
  have Hlen := Lib.hid hlen
  clear hO4 hp4 hrl hbody hlen
  go_wp2_with fail
  refine (good_any w w4 r _ false _ HO4s.out).mono ?_
  rintro e w' ⟨rfl, rfl⟩
  go_wp2_with fail
  refine Hd.out.mono ?_
  rintro e w' ⟨rfl, rfl⟩
  go_wp2_with fail
  refine (same_yes _ _ (bodyOf zs) w4 (HO4.out.by (by rw [Hbody.out]; exact (hz.out.drop 4).take n)) (by rw [Hbody.out]; exact (Hy.out.later HO4.out.below).sub 4 n (by omega) (c - 4) (by omega) (by omega))).mono ?_
  rintro e w' ⟨rfl, rfl⟩
  go_wp2_with fail
  go_ret
  exact ⟨rfl, HO4.out.below⟩

theorem bounds_any (v : Value) (zs : List Int) (w : World) (most : Int) (raw : Bool) (h : By w v zs) :
    Calls Try.prog 4 #[v, .int .i64 most, .bool raw] w fun e w' => e = .returned (.bool true) ∧ Below w.heap.size w w' := by
  by_cases hl : 200 < zs.length
  · exact bounds_long v zs w most raw h hl
  obtain ⟨m, hm, hmb⟩ := and_mask most 1048575 (by decide)
  have hm : bits BinOp.and IntKind.i64 most 1048575 = (m : Int) := hm
  have hl : zs.length ≤ 200 := by omega
  have hb := num4_bounds zs h.2.1
  cases raw
  · by_cases h4 : zs.length < 4
    · exact bounds_A v zs w most m hm hmb h hl h4
    by_cases hnm : (m : Int) < num4 zs
    · exact bounds_C v zs w most m hm hmb h hl (by omega) hnm
    by_cases h5 : 4 < zs.length
    · exact bounds_B1 v zs w most m hm hmb h hl h5 (by omega)
    · exact bounds_B2 v zs w most m hm hmb h hl (by omega) (by omega)
  · by_cases h4 : zs.length < 4
    · exact bounds_D v zs w most m hm hmb h hl h4
    by_cases hnm : (m : Int) < num4 zs
    · exact bounds_E v zs w most m hm hmb h hl (by omega) hnm
    by_cases hnl : (zs.length : Int) - 4 < num4 zs
    · exact bounds_F v zs w most m hm hmb h hl (by omega) (by omega) hnl
    by_cases hnl2 : num4 zs < (zs.length : Int) - 4
    · exact bounds_G v zs w most m hm hmb h hl (by omega) (by omega) hnl2
    by_cases h5 : 4 < zs.length
    · exact bounds_H v zs w most m hm hmb h hl h5 (by omega) (by omega)
    · obtain ⟨a, c, hv, hc1, hc2⟩ := h.2.2
      by_cases hc : 4 < c
      · exact bounds_J v zs w most m hm hmb h hl (by omega) (by omega) (by omega) ⟨a, c, hv, hc⟩
      · exact bounds_I v zs w most m hm hmb h hl (by omega) (by omega) (by omega) ⟨a, by rw [hv]; congr 1; omega⟩
end Go.Proofs.Ytgkkebenbpbhnaa
