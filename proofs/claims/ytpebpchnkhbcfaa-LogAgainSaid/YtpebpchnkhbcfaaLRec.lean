/- The record that begins in a sector of the half. -/
import Derived.Test.YtpebpchnkhbcfaaLBytes
namespace Go.Proofs.Ytpebpchnkhbcfaa
open Go.RowKit
set_option linter.unusedVariables false
set_option linter.unusedSimpArgs false

/-! ### A record's sectors as bytes: plain data -/
theorem flatG_get {α : Type} (k : Nat) : ∀ (L : List (List α)), (∀ s ∈ L, s.length = k) → ∀ (i j : Nat) (hi : i < L.length), j < k → L.flatten[i * k + j]? = (L[i])[j]?
  | [], _, i, j, hi, _ => by simp at hi
  | s :: L, h, 0, j, _, hj => by
    have hs := h s (by simp)
    rw [Nat.zero_mul, Nat.zero_add, List.flatten_cons, List.getElem?_append_left (by omega), List.getElem_cons_zero]
  | s :: L, h, i + 1, j, hi, hj => by
    have hs := h s (by simp)
    rw [List.flatten_cons, List.getElem_cons_succ, List.getElem?_append_right (by rw [Nat.succ_mul]; omega), show (i + 1) * k + j - s.length = i * k + j from by rw [Nat.succ_mul]; omega]
    exact flatG_get k L (fun t ht => h t (by simp [ht])) i j (by simpa using hi) hj
theorem cutB_get (R : List Int) (i j : Nat) (hj : j < 63) (hq : i * 63 + j < R.length) : (cutB R i)[j]? = R[i * 63 + j]? := by
  unfold cutB padTo
  rw [List.getElem?_append_left (by rw [List.length_take, List.length_drop]; omega), List.getElem?_take, if_pos hj, List.getElem?_drop]
theorem bytesB_get (b : List Int) (q : Nat) (hq : q < (recB b).length) : (bytesB (layB b))[q]? = (recB b)[q]? := by
  have hl := recB_length b
  have hr : q / 63 < roomM b.length := by unfold roomM; omega
  have h := flatG_get 63 ((layB b).map (·.take 63)) (fun s hs => by
    obtain ⟨t, ht, rfl⟩ := List.mem_map.1 hs
    rw [List.length_take, layB_64 b t ht]; rfl) (q / 63) (q % 63) (by rw [List.length_map, layB_length]; exact hr) (by omega)
  rw [show q / 63 * 63 + q % 63 = q from by omega, List.getElem_map, List.getElem?_take, if_pos (by omega)] at h
  unfold bytesB
  rw [h]
  have e : (layB b)[q / 63]'(by rw [layB_length]; exact hr) = cutB (recB b) (q / 63) := by simp [layB]
  rw [e, cutB_get _ _ _ (by omega) (by omega), show q / 63 * 63 + q % 63 = q from by omega]
theorem first_get (b : List Int) (q : Nat) (hq : q < 16) : ((cutB (recB b) 0).take 63)[q]? = (recB b)[q]? := by
  have hl := recB_length b
  rw [List.getElem?_take, if_pos (by omega), cutB_get _ _ _ (by omega) (by omega), Nat.zero_mul, Nat.zero_add]
theorem num4_alike (z r : List Int) (k : Nat) (h : ∀ j, j < 4 → z[k + j]? = r[k + j]?) : num4 (z.drop k) = num4 (r.drop k) := by
  unfold num4
  have h0 := h 0 (by omega)
  have h1 := h 1 (by omega)
  have h2 := h 2 (by omega)
  have h3 := h 3 (by omega)
  simp only [List.getD_eq_getElem?_getD, List.getElem?_drop]
  rw [h0, h1, h2, h3]
theorem num4_le4 (n : Int) (h0 : 0 ≤ n) (h1 : n < 4294967296) (l : List Int) : num4 (le4 n ++ l) = n := by
  unfold num4 le4
  simp
  omega
def zed (b : List Int) : List Int := (cutB (recB b) 0).take 63
theorem zed_length (b : List Int) : (zed b).length = 63 := by unfold zed; rw [List.length_take, cutB_length]; rfl
theorem zed_num (b : List Int) (hl : b.length ≤ 4096) : num4 (zed b) = crcI b ∧ num4 ((zed b).drop 4) = 0 ∧ num4 ((zed b).drop 8) = 0 ∧ num4 ((zed b).drop 12) = b.length := by
  have h : ∀ k, k ≤ 12 → num4 ((zed b).drop k) = num4 ((recB b).drop k) := fun k hk => num4_alike _ _ k fun j hj => first_get b (k + j) (by omega)
  have h0 := h 0 (by omega)
  rw [List.drop_zero, List.drop_zero] at h0
  have hc := crcI_bounds b
  refine ⟨by rw [h0]; exact num4_le4 _ hc.1 hc.2 _, ?_, ?_, ?_⟩
  · rw [h 4 (by omega)]; rfl
  · rw [h 8 (by omega)]; rfl
  · rw [h 12 (by omega)]
    exact num4_le4 _ (by omega) (by omega) b
theorem rec_body (b : List Int) : b = ((bytesB (layB b)).drop 16).take b.length := by
  have hl := recB_length b
  have hr : roomM b.length * 63 ≥ b.length + 16 := by unfold roomM; omega
  apply List.ext_getElem?
  intro j
  by_cases hj : j < b.length
  · rw [List.getElem?_take, if_pos hj, List.getElem?_drop, bytesB_get b (16 + j) (by omega)]
    unfold recB sizedL
    rw [List.getElem?_append_right (by simp [le4]; omega), List.getElem?_append_right (by simp [le4]; omega), List.getElem?_append_right (by simp [le4]; omega)]
    congr 1
    simp [le4]
    omega
  · rw [List.getElem?_eq_none (by omega), List.getElem?_eq_none (by rw [List.length_take]; omega)]
theorem bytesB_length (b : List Int) : (bytesB (layB b)).length = roomM b.length * 63 := by
  unfold bytesB
  rw [take63_flat _ (layB_64 b), layB_length]
theorem layB_zero (b : List Int) : bytesB [cutB (recB b) 0] = zed b := by simp [bytesB, zed]

set_option maxHeartbeats 3200000 in
set_option maxRecDepth 100000 in
theorem record_any {W0 : Base} {w : World} {l d : Nat} {D : Dk} {side used : Nat} {lv : Value} {dead : Bool} {L : List Rw} (h : DkAt W0 w d D L) (hm : rowLog l d side used lv dead ∈ L) (h6 : 6 ≤ D.last.length) (hup : D.down = false) (hs : side ≤ 1) (x : Nat) (b : List Int)
    (hb : Byts b) (hl : b.length ≤ 4096) (hx : x + roomM b.length ≤ used) (hu : used ≤ 4096) (hget : ∀ (i : Nat), i < roomM b.length → D.last[2 + side * ((D.last.length - 2) / 2) + (x + i)]? = some (bs (cutB (recB b) i))) :
    Calls Try.prog 37 #[.pointer (some ⟨l, 0, none⟩), .int .i64 x] w fun e w' => ∃ v M, e = .returned (.tuple #[v, .bool true]) ∧ Own w w' M ∧ Pc M v b := by
  have hn4 : roomM b.length ≤ 66 := by unfold roomM; omega
  have hn1 : 1 ≤ roomM b.length := by unfold roomM; omega
  have hcb := crcI_bounds b
  have hrb := recB_byts b hb hl
  obtain ⟨z1, z2, z3, z4⟩ := zed_num b hl
  have hzl := zed_length b
  have hzb : Byts (zed b) := (cutB_byts _ _ hrb).take 63
  -- the first sector, and all of them, as bytes
  have hB1 := fun W (hW : DkAt W0 W d D L) => bytes_any hW hm h6 hup hs x [cutB (recB b) 0] (by simp; omega) (fun s hs => by rw [List.mem_singleton.1 hs]; exact cutB_length _ _) (fun s hs => by rw [List.mem_singleton.1 hs]; exact cutB_byts _ _ hrb) (fun i hi => by
    obtain rfl : i = 0 := by simpa using hi
    exact hget 0 (by omega))
  have hB2 := fun W (hW : DkAt W0 W d D L) => bytes_any hW hm h6 hup hs x (layB b) (by rw [layB_length]; omega) (layB_64 b) (fun s hs => (layB_sec b hb hl s hs).2) (fun i hi => by
    rw [layB_length] at hi
    rw [hget i hi]
    simp [layB])
  rw [layB_zero] at hB1
  rw [layB_length] at hB2
  simp only [List.length_singleton, Nat.one_mul] at hB1
  obtain ⟨n, hn⟩ : ∃ n, b.length = n := ⟨_, rfl⟩
  obtain ⟨R, hR⟩ : ∃ R, roomM n = R := ⟨_, rfl⟩
  rw [hn, hR] at hB2 hx hn4 hn1
  have hBl := bytesB_length b
  rw [hn, hR] at hBl
  have hbody := rec_body b
  rw [hn] at hbody
  have hRn : n + 16 ≤ R * 63 := by rw [← hR]; unfold roomM; omega
  have hbz2 : Byts (bytesB (layB b)) := fillB_all (layB b) ▸ fillB_byts (layB b) (fun s hs => (layB_sec b hb hl s hs).2) _
  obtain ⟨Y, hY⟩ : ∃ Y, bytesB (layB b) = Y := ⟨_, rfl⟩
  obtain ⟨Z, hZ⟩ : ∃ Z, zed b = Z := ⟨_, rfl⟩
  obtain ⟨cr, hcr⟩ : ∃ cr, crcI b = cr := ⟨_, rfl⟩
  rw [hY] at hB2 hBl hbody hbz2
  rw [hZ] at hB1 z1 z2 z3 z4 hzl hzb
  rw [hcr] at hcb z1
  rw [hn] at z4 hl
  have H := Lib.hid h
  have Hm := Lib.hid hm
  have HB1 := Lib.hid hB1
  have HB2 := Lib.hid hB2
  have Hn := Lib.hid hn
  have HR := Lib.hid hR
  have HBl := Lib.hid hBl
  have Hbody := Lib.hid hbody
  have Hbz2 := Lib.hid hbz2
  have Z1 := Lib.hid z1
  have Z2 := Lib.hid (show ∀ k, k < 2 → 4 ≤ (Z.drop (4 + 4 * k)).length ∧ num4 (Z.drop (4 + 4 * k)) = 0 from fun k hk => by
    rw [List.length_drop, hzl]
    rcases (show k = 0 ∨ k = 1 by omega) with rfl | rfl
    · exact ⟨by omega, z2⟩
    · exact ⟨by omega, z3⟩)
  have Z4 := Lib.hid z4
  have Hzl := Lib.hid hzl
  have Hzb := Lib.hid hzb
  have Hcr := Lib.hid hcr
  have Hb := Lib.hid hb
  have hcr0 := hcb.1
  have hcr1 := hcb.2
  clear h hm hB1 hB2 hn hR hBl hbody hbz2 z1 z2 z3 z4 hzl hzb hcr hb hcb hY hZ hget hrb hup h6
  go_enter Try.func37, Try.ntmps37
  go_wp2_with fail
  refine (HB1.out w H.out).mono ?_
  rintro e w1 ⟨g, rfl, hO1⟩
  have HO1 := Lib.hid hO1
  clear hO1
  go_wp2_with fail
  have hby1 : By w1 (.slice (some ⟨g, 0, none⟩) 63 63) Z := by
    have h1 := HO1.out
    rw [← Hzl.out] at h1 ⊢
    exact Own.by (show Own w w1 (rowU (.slice (some ⟨g, 0, none⟩) Z.length Z.length) Z :: []) from h1) Hzb.out
  refine (rread_any (.slice (some ⟨g, 0, none⟩) 63 63) Z w1 hby1 (by rw [Hzl.out]; decide)).mono ?_
  rintro e w2 ⟨r, v2, rfl, hO2, hp2⟩
  have HO2 := Lib.hid (show Own w w2 (rowR r v2 false :: [rowU v2 Z]) from (HO1.out.join hO2).of_mem (.cons_cons _ (.cons_cons _ (List.nil_sublist _))))
  have HP2 := Lib.hid hp2
  clear hO2 hp2 hby1 HO1
  go_wp2_with fail
  refine (rnum_any w w2 r v2 false _ Z 4294967295 HO2.out HP2.out ⟨by rw [Hzl.out]; decide, by rw [Z1.out]; omega⟩).mono ?_
  rintro e w3 ⟨v3, rfl, hO3, hp3⟩
  rw [Z1.out]
  have HO3 := Lib.hid hO3
  have HP3 := Lib.hid hp3
  clear hO3 hp3 HO2 HP2
  go_wp2_with fail
  go_loopw [16] (fun t wr => ∃ (k : Nat) (v : Value), k ≤ 2 ∧ t = .int .i64 k ∧ Own w wr (rowR r v false :: [rowU v2 Z]) ∧ Pc [rowU v2 Z] v (Z.drop (4 + 4 * k))) (fun t _ => 2 - (intOf t).toNat)
  case atStart => exact ⟨0, v3, by omega, rfl, HO3.out, HP3.out⟩
  case round =>
    obtain ⟨k, v, hk, rfl, hO, hp⟩ := hrel
    by_cases hlt : k < 2
    · have hz := Z2.out k hlt
      have HO := Lib.hid hO
      have HP := Lib.hid hp
      have Hz := Lib.hid hz
      clear hO hp hz
      go_wp2_with fail
      refine (rnum_any w wr r v false _ _ 0 HO.out HP.out ⟨Hz.out.1, by rw [Hz.out.2]; exact Int.le_refl _⟩).mono ?_
      rintro e w4 ⟨v4, rfl, hO4, hp4⟩
      rw [List.drop_drop] at hp4
      have HO4 := Lib.hid hO4
      have HP4 := Lib.hid (show Pc [rowU v2 Z] v4 (Z.drop (4 + 4 * (k + 1))) by rw [show 4 + 4 * (k + 1) = 4 + 4 * k + 4 from by omega]; exact hp4)
      clear hO4 hp4
      go_wp2_with fail
      exact ⟨⟨k + 1, v4, by omega, by go_num, HO4.out, HP4.out⟩, by simp [intOf]; omega⟩
    · obtain rfl : k = 2 := by omega
      have HO := Lib.hid hO
      have HP := Lib.hid (show Pc [rowU v2 Z] v (Z.drop 12) from hp)
      clear hO hp HO3 HP3
      go_wp2_with fail
      refine (rnum_any w wr r v false _ (Z.drop 12) 4096 HO.out HP.out ⟨by rw [List.length_drop, Hzl.out]; decide, by rw [Z4.out]; omega⟩).mono ?_
      rintro e w5 ⟨v5, rfl, hO5, hp5⟩
      rw [Z4.out]
      have HO5 := Lib.hid hO5
      clear hO5 hp5 HO HP
      go_wp2_with fail
      have hA5 := H.out.later HO5.out.below
      obtain ⟨_, _, c2, _, _⟩ := log_cells_mem hA5 Hm.out
      have Hgd := Lib.hid (show ∀ q, Calls Try.prog 49 #[.pointer (some ⟨r, 0, none⟩)] (w5.drewN q) fun e w' => e = .returned (.bool true) ∧ w' = w5.drewN q from fun q => (good_any w _ r v5 false _ HO5.out.drewN).mono fun e w' ⟨h1, h2⟩ => ⟨h1, h2.symm⟩)
      have Hrm := Lib.hid (show ∀ W, Calls Try.prog 16 #[.int .i64 (n : Int)] W fun e w' => e = .returned (.int .i64 (R : Int)) ∧ w' = W from fun W => (room_any n W (by omega)).mono fun e w' ⟨h1, h2⟩ => ⟨by rw [h1, HR.out], h2.symm⟩)
      obtain ⟨xr, hxr⟩ : ∃ xr, x + R = xr := ⟨_, rfl⟩
      have hwr : IntKind.i64.wrap ((x : Int) + (R : Int)) = (xr : Int) := by rw [IntWalk.i64_in _ (by omega)]; omega
      have hxu : ¬ (used : Int) < (xr : Int) := by omega
      have hxd : decide ((used : Int) < (xr : Int)) = false := by simp; omega
      clear hxr hA5
      go_quiet ((first
        | (go_at_call 49; exact Calls.quiet_of_same (Hgd.out _))
        | (go_at_call 16; exact Calls.quiet_of_same (Hrm.out _))))
      have HO6 := Lib.hid (HO5.out.drewN (n := nq))
      have HA6 := Lib.hid (H.out.later HO6.out.below)
      clear HO5 Hgd c2 hwr hxu hxd
      generalize w5.drewN nq = w6 at *
      obtain ⟨N, hN⟩ : ∃ N, R * 63 = N := ⟨_, rfl⟩
      rw [hN] at HB2 HBl hRn
      have hN16 : ¬ N = 16 := by omega
      have hNb : N ≤ 10000 := by omega
      clear hN
      go_wp2_with (go_at_call 16; refine (Hrm.out _).mono ?_; rintro e w' ⟨rfl, rfl⟩)
      refine (HB2.out _ HA6.out).mono ?_
      rintro e w7 ⟨g7, rfl, hO7⟩
      have HO7 := Lib.hid hO7
      clear hO7
      go_wp2_with fail
      have hp : Pc [⟨5, 1, .slice (some ⟨g7, 0, none⟩) N N, N, bs Y⟩] (.slice (some ⟨g7, 16, none⟩) n (N - 16)) b := by
        refine ⟨_, N - 16, by rw [Hn.out], by rw [Hn.out]; omega, by unfold maxLen; omega, Hb.out, .inr ⟨g7, 16, rfl, fun _ => ⟨N, Y, ?_, ?_, ?_⟩⟩⟩
        · unfold rowU
          rw [HBl.out]
          exact List.mem_singleton.2 rfl
        · rw [Hn.out, HBl.out]; omega
        · rw [Hn.out]; exact Hbody.out
      have Hp := Lib.hid hp
      have HY := Lib.hid (hp.by HO7.out)
      clear hp
      refine (sum_one _ _ (.slice (some ⟨g7, 16, none⟩) n (N - 16)) b _ (cell_made _ _ _ _ rfl) (HY.out.alloc _)).mono ?_
      rintro e w' ⟨rfl, rfl⟩
      rw [Hcr.out]
      have HF := Lib.hid ((HO6.out.join HO7.out).alloc (.cells #[.slice (some ⟨g7, 16, none⟩) n (N - 16)] 30))
      have hnn : 16 + n - 16 = n := by omega
      go_wp2_with fail
      go_ret2
      exact ⟨_, _, rfl, HF.out, (Hp.out.mono fun y hy => List.mem_append_left _ hy)⟩
end Go.Proofs.Ytpebpchnkhbcfaa
