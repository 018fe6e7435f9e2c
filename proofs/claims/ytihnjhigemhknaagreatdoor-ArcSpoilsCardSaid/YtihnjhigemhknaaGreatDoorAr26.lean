/- ArcSpoils: its walk. -/
import Derived.Test.YtihnjhigemhknaaGreatDoorAr24
import Derived.Test.YtihnjhigemhknaaGreatDoorAr25
namespace Go.Proofs.YtihnjhigemhknaaGreatDoor
open Go.RowKit
set_option linter.unusedVariables false
set_option linter.unusedSimpArgs false
set_option maxRecDepth 100000

def rowB4 (H : Nat) (b0 b1 b2 b3 : Int) : Rw := ⟨48, 1, .slice (some ⟨H, 0, none⟩) 4 4, 4, [.int .u8 b0, .int .u8 b1, .int .u8 b2, .int .u8 b3]⟩
theorem b4_cells {W0 : Base} {w : World} {L : List Rw} {H : Nat} {b0 b1 b2 b3 : Int} (h : Own W0 w L) (hm : rowB4 H b0 b1 b2 b3 ∈ L) : w.cell? ⟨H, 0, none⟩ = some (.int .u8 b0) ∧ w.cell? ⟨H, 1, none⟩ = some (.int .u8 b1) ∧ w.cell? ⟨H, 2, none⟩ = some (.int .u8 b2) ∧ w.cell? ⟨H, 3, none⟩ = some (.int .u8 b3) := by
  have h1 := h.only hm
  exact ⟨Own.cell (h := h1) 0 (by decide), Own.cell (h := h1) 1 (by decide), Own.cell (h := h1) 2 (by decide), Own.cell (h := h1) 3 (by decide)⟩
/-- Read, where all that is asked is the error. -/
def ReadsAs (x : Int) (w : World) : Ending → World → Prop := fun e w' => ∃ (s1 s2 : ByteArray) (a1 a2 a3 a4 : Option Addr) (n1 c1 n2 c2 n3 c3 n4 c4 : Nat), e = .returned (.tuple #[(.agg #[.string s1, .string s2, .slice a1 n1 c1, .slice a2 n2 c2, .slice a3 n3 c3, .slice a4 n4 c4]), .int .i64 x]) ∧ Below w.heap.size w w'
theorem read_spoilt {C : List Int} (hl : C.length ≤ 1000000) (hn : ¬ sumFits C) (v : Value) (w : World) (h : By w v C) (hm : Mx w) : Calls Tryz.prog 12 #[v] w (ReadsAs 5 w) :=
  (read_any v C w h hl hm).mono fun e w' hd => by
    rcases hd with ⟨_, he, hb⟩ | ⟨hf, _⟩
    · exact ⟨_, _, _, _, _, _, _, _, _, _, _, _, _, _, he, hb⟩
    · exact absurd hf hn
theorem read_own_as (D : PkgD) (hs : SmallD D) (hk : pkOk D = true) (v : Value) (w : World) (h : By w v (writeP D)) (hm : Mx w) : Calls Tryz.prog 12 #[v] w (ReadsAs 0 w) :=
  (read_own D hs hk v w h hm).mono fun e w' ⟨D', P', _, _, _, hb, he⟩ => ⟨_, _, _, _, _, _, _, _, _, _, _, _, _, _, he, hb⟩
theorem u8_cellA {W0 : Base} {w : World} {g n cap : Nat} {X : List Int} {L : List Rw} (h : Own W0 w (⟨5, 1, .slice (some ⟨g, 0, none⟩) n cap, n, bs X⟩ :: L)) (hl : X.length = n) (k : Nat) (hk : k < n) : w.cell? ⟨g, k, none⟩ = some (.int .u8 (Cr.at0 X k)) := by
  rw [Own.cell (h := h) k (by omega), Cr.at0_get X k (by omega)]
  simp [bs, List.getElem?_eq_getElem (show k < X.length by omega)]
theorem turn_none (x : List Int) (p : Nat) (hx : Cr.Bytes x) : ∀ k, Cr.turnTo x p 0 0 0 0 k = x
  | 0 => rfl
  | k + 1 => by
    have hb : Cr.byAt 0 0 0 0 k = 0 := by unfold Cr.byAt; split <;> rfl
    rw [Cr.turnTo, turn_none x p hx k, hb]
    have h1 := (Cr.byte_at x hx (p + k)).1
    have e : Cr.bx (Cr.at0 x (p + k)) 0 = Cr.at0 x (p + k) := by unfold Cr.bx; simp; omega
    rw [e]
    by_cases hl : p + k < x.length
    · rw [Cr.at0_get x _ hl]; exact List.set_getElem_self hl
    · exact List.set_eq_of_length_le (by omega)
set_option maxHeartbeats 16000000 in
theorem spoils_law (D : PkgD) (P : PkL) (q b0 b1 b2 b3 : Int) (w : World) (hD : PkAt w D P) (hr : RoomD D) (hm : Mx w) (hq : (Lit.int .i64 q).wf = true) (k0 : 0 ≤ b0 ∧ b0 < 256) (k1 : 0 ≤ b1 ∧ b1 < 256) (k2 : 0 ≤ b2 ∧ b2 < 256) (k3 : 0 ≤ b3 ∧ b3 < 256) :
    Calls Tryz.prog 5 #[.agg #[.string D.name, .string D.ver, .slice P.an D.needs.length P.cn, .slice P.ac D.confs.length P.cc, .slice P.af D.files.length P.cf, .slice P.au D.units.length P.cu], .int .i64 q, .agg #[.int .u8 b0, .int .u8 b1, .int .u8 b2, .int .u8 b3]] w fun e w' => e = .returned (.bool true) ∧ Below w.heap.size w w' := by
  have hO1 := (Own.start w).made 26 6 #[.string D.name, .string D.ver, .slice P.an D.needs.length P.cn, .slice P.ac D.confs.length P.cc, .slice P.af D.files.length P.cf, .slice P.au D.units.length P.cu] 1 rfl (by unfold maxLen; decide)
  have s1 : w.heap.size + 1 = (w.alloc (.cells #[.string D.name, .string D.ver, .slice P.an D.needs.length P.cn, .slice P.ac D.confs.length P.cc, .slice P.af D.files.length P.cf, .slice P.au D.units.length P.cu] 26)).heap.size := by simp
  have HX := Lib.hid (show Own w _ [rowB4 (w.heap.size + 1) b0 b1 b2 b3, rowPk w.heap.size D P] from hO1.made_at 48 1 #[.int .u8 b0, .int .u8 b1, .int .u8 b2, .int .u8 b3] 4 (w.heap.size + 1) s1 rfl (by unfold maxLen; decide))
  have HD := Lib.hid hD
  have HR := Lib.hid hr
  have Hm := Lib.hid hm
  have HA := fun w1 (h : Mx w1) => aalive_any w1 h
  have HS := fun w1 (h : PkAt w1 D P) => small_any D P w1 h hr
  clear hO1 s1 hD hr hm
  go_enter Tryz.func5, Tryz.ntmps5
  go_wp2_with fail
  refine (HA _ (Hm.out.later HX.out.below)).mono ?_
  rintro e w1 ⟨rfl, hb1⟩
  have HX1 := Lib.hid (HX.out.later hb1)
  obtain ⟨p0, p1, p2, p3, p4, p5⟩ := pk_cells HX1.out (g := w.heap.size) (D := D) (P := P) (by simp)
  clear hb1 HA HX
  go_wp2_with fail
  refine (HS _ (HD.out.later HX1.out.below)).mono ?_
  rintro e w2 ⟨hsm, hb2⟩
  have HX2 := Lib.hid (HX1.out.later hb2)
  clear p0 p1 p2 p3 p4 p5 hb2 HS HX1
  rcases hsm with rfl | ⟨rfl, hsm⟩
  · go_wp2_with fail
    go_ret
    exact ⟨rfl, HX2.out.below⟩
  · obtain ⟨p0, p1, p2, p3, p4, p5⟩ := pk_cells HX2.out (g := w.heap.size) (D := D) (P := P) (by simp)
    have hd2 := HD.out.later HX2.out.below
    have hm2 := Hm.out.later HX2.out.below
    by_cases hk : pkOk D = true
    · have hbt := packP_byts D hsm.fits (few_of hk) fun f hx => (HD.out.data f hx).2.1
      have hwb : Byts (writeP D) := hbt.append (le4_byts _ (crcI_le (packP D)).1 (crcI_le (packP D)).2)
      have hlen := fits_small hsm
      have hl : (writeP D).length = (packP D).length + 4 := by unfold writeP; rw [List.length_append]; rfl
      have hfit : sumFits (writeP D) := fits_own (packP D)
      have HRd := fun v w' => read_own_as D hsm hk v w'
      have hwr := write_yes D P w2 hd2 hsm.fits hm2 hk
      clear hd2 hsm hbt HR HD
      obtain ⟨zs, hzs⟩ : ∃ zs, writeP D = zs := ⟨_, rfl⟩
      rw [hzs] at hwb hl hfit HRd hwr
      generalize (packP D).length = pl at *
      clear hzs hk hm2
      go_wp2_with fail
      refine hwr.mono ?_
      rintro e w4 ⟨v4, rfl, hO4⟩
      have HX4 := Lib.hid (show Own w w4 (rowU v4 zs :: [rowB4 (w.heap.size + 1) b0 b1 b2 b3, rowPk w.heap.size D P]) from HX2.out.join hO4)
      obtain ⟨a4, c4, rfl, hc4, hc4m⟩ := Own.sized (h := hO4)
      have HB4 := Lib.hid (hO4.by hwb)
      clear p0 p1 p2 p3 p4 p5 hO4 hwr HX2
      obtain ⟨i0, hi, hz0, hz1, hz2⟩ := info_parts info_u
      have HE := Lib.hid (show Own w (w4.alloc (.cells #[] 5)) (⟨5, 1, .slice (some ⟨w4.heap.size, 0, none⟩) 0 0, 0, []⟩ :: rowU (.slice a4 zs.length c4) zs :: [rowB4 (w.heap.size + 1) b0 b1 b2 b3, rowPk w.heap.size D P]) from HX4.out.made 5 1 #[] 0 rfl (by unfold maxLen; decide))
      have HSr := Lib.hid (HB4.out.later ((Below.refl _ w4).alloc (Nat.le_refl _) (.cells #[] 5))).1
      have Hwb := Lib.hid hwb
      have Hfit := Lib.hid hfit
      have hzl : zs.length ≤ 100004 := by omega
      have hz4 : 4 ≤ zs.length := by omega
      clear hwb hfit HX4 hl hlen
      go_wp2_with (at_builtin; refine wpList_append_src rfl (.tmp 28) (.tmp 29) 34 rfl _ 0 [] (.slice a4 zs.length c4) zs.length (bs zs) rfl rfl HE.out i0 (.int .u8 0) 1 Tryz.underlying34 hi hz0 hz1 hz2 rfl (by decide) HSr.out (by rw [bs_length, Nat.mul_one]) (by unfold maxLen; omega) (by omega) ?_)
      intro v5 w5 hO5
      obtain ⟨g, cp, rfl, _, hgl, hncp, hcm⟩ := Own.form (h := hO5) (by omega)
      have HO5 := Lib.hid hO5
      clear hO5 HE HSr
      obtain ⟨m, hmq, hm1⟩ := Cr.and_65535 q
      obtain ⟨p, hp⟩ : ∃ p, p = m % (zs.length - 3) := ⟨_, rfl⟩
      have hp1 : p + 4 ≤ zs.length := by have := Nat.mod_lt m (show 0 < zs.length - 3 by omega); omega
      have hpe : (m : Int) % ((zs.length : Int) - 3) = (p : Int) := by rw [hp, Int.natCast_emod, Int.natCast_sub (by omega)]; rfl
      clear hp
      have kk : ∀ k, 0 ≤ Cr.byAt b0 b1 b2 b3 k ∧ Cr.byAt b0 b1 b2 b3 k < 256 := fun k => by unfold Cr.byAt; split <;> omega
      have Hkk := Lib.hid kk
      clear kk
      obtain ⟨d0, d1, d2, d3⟩ := b4_cells HO5.out (H := w.heap.size + 1) (b0 := b0) (b1 := b1) (b2 := b2) (b3 := b3) (by simp)
      go_wp2_with fail
      clear d0 d1 d2 d3
      go_loopw [10, 11, 38] (fun _ _ i wr => ∃ k : Nat, k ≤ 4 ∧ i = .int .i64 k ∧ Own w wr (⟨5, 1, .slice (some ⟨g, 0, none⟩) zs.length cp, zs.length, bs (Cr.turnTo zs p b0 b1 b2 b3 k)⟩ :: rowU (.slice a4 zs.length c4) zs :: [rowB4 (w.heap.size + 1) b0 b1 b2 b3, rowPk w.heap.size D P])) (fun _ _ i _ => 4 - (intOf i).toNat)
      case atStart => exact ⟨0, by omega, rfl, HO5.out⟩
      case round =>
        clear HO5
        obtain ⟨k, hk, rfl, hO⟩ := hrel
        by_cases hlk : k < 4
        · have hix : ∀ W : World, Sem.run Tryz.prog (Instr.index 48 (.agg #[.int .u8 b0, .int .u8 b1, .int .u8 b2, .int .u8 b3]) (.int .i64 (k : Int))) W = .ok (.int .u8 (Cr.byAt b0 b1 b2 b3 k)) W := Cr.index_by b0 b1 b2 b3 k hlk
          have hc := u8_cellA hO (Cr.turnTo_length _ _ _ _ _ _ _) (p + k) (by omega)
          have hf := Own.free (h := hO) (p + k)
          have hS := Own.set (h := hO) (p + k) (.int .u8 (Cr.bx (Cr.at0 (Cr.turnTo zs p b0 b1 b2 b3 k) (p + k)) (Cr.byAt b0 b1 b2 b3 k)))
          have hrb := Cr.byte_at _ (Cr.turnTo_bytes zs p b0 b1 b2 b3 (byts_cr Hwb.out) Hkk.out k) (p + k)
          have hkb := Hkk.out k
          have hbx := Cr.bits_bx _ _ hrb hkb
          have HT := Lib.hid (show Cr.turnTo zs p b0 b1 b2 b3 (k + 1) = (Cr.turnTo zs p b0 b1 b2 b3 k).set (p + k) (Cr.bx (Cr.at0 (Cr.turnTo zs p b0 b1 b2 b3 k) (p + k)) (Cr.byAt b0 b1 b2 b3 k)) from rfl)
          generalize Cr.at0 (Cr.turnTo zs p b0 b1 b2 b3 k) (p + k) = r at *
          generalize Cr.byAt b0 b1 b2 b3 k = c at *
          obtain ⟨hr0, hr1⟩ := hrb
          obtain ⟨hc0, hc1⟩ := hkb
          have HSt := Lib.hid hS
          clear hS hO
          go_wp2_with fail
          go_roundw
          case rel => exact ⟨k + 1, by omega, by go_num, by rw [HT.out]; simpa only [bs, List.map_set] using HSt.out⟩
          case measure => simp [intOf]; omega
        · obtain rfl : k = 4 := by omega
          have hCl : (Cr.turnTo zs p b0 b1 b2 b3 4).length = zs.length := Cr.turnTo_length _ _ _ _ _ _ _
          have hCb : Byts (Cr.turnTo zs p b0 b1 b2 b3 4) := fun x hx => Cr.turnTo_bytes zs p b0 b1 b2 b3 (byts_cr Hwb.out) Hkk.out 4 x hx
          have HX6 := Lib.hid (show Own w wr (rowU (.slice (some ⟨g, 0, none⟩) zs.length cp) (Cr.turnTo zs p b0 b1 b2 b3 4) :: rowU (.slice a4 zs.length c4) zs :: [rowB4 (w.heap.size + 1) b0 b1 b2 b3, rowPk w.heap.size D P]) by
            have h := hO
            unfold rowU at h ⊢
            rw [hCl]
            exact h)
          have HBC := Lib.hid (HX6.out.by hCb)
          obtain ⟨x, B, hCR, hEq, hfin⟩ : ∃ (x : Int) (B : Bool), (∀ v w', By w' v (Cr.turnTo zs p b0 b1 b2 b3 4) → Mx w' → Calls Tryz.prog 12 #[v] w' (ReadsAs x w')) ∧ (∀ W, Sem.run Tryz.prog (Op.equalIn 10000 48 (.agg #[.int .u8 b0, .int .u8 b1, .int .u8 b2, .int .u8 b3]) (.agg #[.int .u8 0, .int .u8 0, .int .u8 0, .int .u8 0])) W = .ok B W) ∧ ((x = 0 ∧ B = true) ∨ (x = 5 ∧ B = false)) := by
            by_cases hz : b0 = 0 ∧ b1 = 0 ∧ b2 = 0 ∧ b3 = 0
            · obtain ⟨rfl, rfl, rfl, rfl⟩ := hz
              rw [turn_none zs p (byts_cr Hwb.out)]
              exact ⟨0, true, HRd, Cr.eq4 0 0 0 0, .inl ⟨rfl, rfl⟩⟩
            · have hns : ¬ sumFits (Cr.turnTo zs p b0 b1 b2 b3 4) := fun hf => hz ((Cr.turn_tells zs p b0 b1 b2 b3 (byts_cr Hwb.out) Hkk.out hp1).1 (by rw [crc_fits Hfit.out, crc_fits hf]))
              have he : (b0 == 0 && (b1 == 0 && (b2 == 0 && b3 == 0))) = false := by
                rw [Bool.eq_false_iff]
                intro h
                simp only [Bool.and_eq_true, beq_iff_eq] at h
                exact hz h
              exact ⟨5, false, fun v w' h1 h2 => read_spoilt (by omega) hns v w' h1 h2, fun W => by rw [← he]; exact Cr.eq4 b0 b1 b2 b3 W, .inr ⟨rfl, rfl⟩⟩
          have HB6 := Lib.hid (HX6.out.tail.by Hwb.out)
          generalize Cr.turnTo zs p b0 b1 b2 b3 4 = C at *
          clear hO hCl hCb Hwb Hfit Hkk HB4
          go_wp2_with fail
          refine (hCR _ _ HBC.out (Hm.out.later HX6.out.below)).mono ?_
          rintro e w7 ⟨s1, s2, x1, x2, x3, x4, n1, y1, n2, y2, n3, y3, n4, y4, rfl, hb7⟩
          have HX7 := Lib.hid ((HX6.out.later hb7).alloc (.cells #[.string s1, .string s2, .slice x1 n1 y1, .slice x2 n2 y2, .slice x3 n3 y3, .slice x4 n4 y4] 26))
          have HB7 := Lib.hid ((HB6.out.later hb7).later ((Below.refl _ w7).alloc (Nat.le_refl _) (.cells #[.string s1, .string s2, .slice x1 n1 y1, .slice x2 n2 y2, .slice x3 n3 y3, .slice x4 n4 y4] 26)))
          clear hb7 hCR HBC HX6 HB6
          go_wp2_with fail
          refine (HRd _ _ HB7.out (Hm.out.later HX7.out.below)).mono ?_
          rintro e w8 ⟨t1, t2, z1, z2, z3, z4, l1, u1, l2, u2, l3, u3, l4, u4, rfl, hb8⟩
          have HX8 := Lib.hid (HX7.out.later hb8)
          obtain ⟨d0, d1, d2, d3⟩ := b4_cells HX8.out (H := w.heap.size + 1) (b0 := b0) (b1 := b1) (b2 := b2) (b3 := b3) (by simp)
          have hsz := World.block_lt_of_cell? _ _ d0
          clear hb8 HRd HX7 HB7 Hm
          rcases hfin with ⟨rfl, rfl⟩ | ⟨rfl, rfl⟩
          · go_wp2_with fail
            go_ret
            exact ⟨rfl, (HX8.out.alloc _).below⟩
          · go_wp2_with fail
            go_ret
            exact ⟨rfl, (HX8.out.alloc _).below⟩
    · have hwr := write_no D P w2 hd2 hsm.fits hm2 (by simpa using hk)
      clear hd2 hsm hk HR HD hm2
      go_wp2_with fail
      refine hwr.mono ?_
      rintro e w4 ⟨rfl, hb4⟩
      have HX4 := Lib.hid (HX2.out.later hb4)
      clear hb4 hwr p0 p1 p2 p3 p4 p5
      go_wp2_with fail
      go_ret
      exact ⟨rfl, HX4.out.below⟩
end Go.Proofs.YtihnjhigemhknaaGreatDoor
