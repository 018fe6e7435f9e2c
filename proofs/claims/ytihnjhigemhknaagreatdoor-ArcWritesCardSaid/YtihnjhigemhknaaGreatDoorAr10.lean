/- Write, where a package is right. -/
import Derived.Test.YtihnjhigemhknaaGreatDoorAr8
import Derived.Test.YtihnjhigemhknaaGreatDoorAr9
namespace Go.Proofs.YtihnjhigemhknaaGreatDoor
open Go.RowKit
set_option linter.unusedVariables false
set_option linter.unusedSimpArgs false
set_option maxRecDepth 100000

theorem packP_len (D : PkgD) (hf : Fits D) (hw : FewD D) : (packP D).length ≤ 100000000 := by
  have l1 := flat_le packN 2000012 D.needs fun n hn => packN_len n (hf.need n hn).1 (hf.need n hn).2
  have l2 := flat_le textL 1000004 D.confs fun s hs => by rw [textL_len]; have := hf.conf s hs; omega
  have l3 := flat_le packF 2000012 D.files fun n hn => packF_len n (hf.file n hn).1 (hf.file n hn).2
  have l4 := flat_le textL 1000004 D.units fun s hs => by rw [textL_len]; have := hf.unit s hs; omega
  have k1 : (D.needs.map packN).flatten.length ≤ 8 * 2000012 := Nat.le_trans l1 (Nat.mul_le_mul_right _ hw.needs)
  have k2 : (D.confs.map textL).flatten.length ≤ 8 * 1000004 := Nat.le_trans l2 (Nat.mul_le_mul_right _ hw.confs)
  have k3 : (D.files.map packF).flatten.length ≤ 12 * 2000012 := Nat.le_trans l3 (Nat.mul_le_mul_right _ hw.files)
  have k4 : (D.units.map textL).flatten.length ≤ 4 * 1000004 := Nat.le_trans l4 (Nat.mul_le_mul_right _ hw.units)
  have := hf.name; have := hf.ver
  unfold packP
  simp only [List.length_append, sizedL_length, textL_len]
  omega
theorem packP_byts (D : PkgD) (hf : Fits D) (hw : FewD D) (hd : ∀ f ∈ D.files, Byts f.data) : Byts (packP D) := by
  have l1 := flat_le packN 2000012 D.needs fun n hn => packN_len n (hf.need n hn).1 (hf.need n hn).2
  have l2 := flat_le textL 1000004 D.confs fun s hs => by rw [textL_len]; have := hf.conf s hs; omega
  have l3 := flat_le packF 2000012 D.files fun n hn => packF_len n (hf.file n hn).1 (hf.file n hn).2
  have l4 := flat_le textL 1000004 D.units fun s hs => by rw [textL_len]; have := hf.unit s hs; omega
  have k1 : (D.needs.map packN).flatten.length ≤ 8 * 2000012 := Nat.le_trans l1 (Nat.mul_le_mul_right _ hw.needs)
  have k2 : (D.confs.map textL).flatten.length ≤ 8 * 1000004 := Nat.le_trans l2 (Nat.mul_le_mul_right _ hw.confs)
  have k3 : (D.files.map packF).flatten.length ≤ 12 * 2000012 := Nat.le_trans l3 (Nat.mul_le_mul_right _ hw.files)
  have k4 : (D.units.map textL).flatten.length ≤ 4 * 1000004 := Nat.le_trans l4 (Nat.mul_le_mul_right _ hw.units)
  have b1 := flat_byts packN D.needs fun n hn => packN_byts n (hf.need n hn).1 (hf.need n hn).2 (hw.ways n hn).1 (hw.ways n hn).2
  have b2 := flat_byts textL D.confs fun s hs => textL_byts s (hf.conf s hs)
  have b3 := flat_byts packF D.files fun n hn => packF_byts n (hf.file n hn).1 (hf.file n hn).2 (hd n hn)
  have b4 := flat_byts textL D.units fun s hs => textL_byts s (hf.unit s hs)
  exact (textL_byts _ hf.name).append ((textL_byts _ hf.ver).append ((sizedL_byts _ b1 (by omega)).append ((sizedL_byts _ b2 (by omega)).append ((sizedL_byts _ b3 (by omega)).append (sizedL_byts _ b4 (by omega))))))
set_option maxHeartbeats 4000000 in
theorem write_yes (D : PkgD) (P : PkL) (w : World) (hD : PkAt w D P) (hf : Fits D) (hm : Mx w) (hn : pkOk D = true) :
    Calls Tryz.prog 9 #[.agg #[.string D.name, .string D.ver, .slice P.an D.needs.length P.cn, .slice P.ac D.confs.length P.cc, .slice P.af D.files.length P.cf, .slice P.au D.units.length P.cu]] w fun e w' => ∃ v, e = .returned (.tuple #[v, .int .i64 0]) ∧ Own w w' [rowU v (writeP D)] := by
  have HX := Lib.hid (show Own w _ [rowPk w.heap.size D P] from (Own.start w).box6 (.string D.name) (.string D.ver) (.slice P.an D.needs.length P.cn) (.slice P.ac D.confs.length P.cc) (.slice P.af D.files.length P.cf) (.slice P.au D.units.length P.cu) 26)
  have HR := fun w1 (k : PkAt w1 D P) (k2 : Mx w1) => pkright_any D P w1 k hf k2
  simp only [hn] at HR
  have hw := few_of hn
  have HK := fun w1 (k : PkAt w1 D P) => pkpack_any D P w1 k hf hw
  have hlen := packP_len D hf hw
  have hbt := packP_byts D hf hw fun f hx => (hD.data f hx).2.1
  have HD := Lib.hid hD
  have Hm := Lib.hid hm
  have HG := Lib.hid (show writeP D = packP D ++ le4 (crcI (packP D)) from rfl)
  simp only [HG.out]
  have hc4 := crcI_le (packP D)
  have hcb := le4_byts _ hc4.1 hc4.2
  clear hD hm hn HG hw hf
  generalize packP D = zs at *
  go_enter Tryz.func9, Tryz.ntmps9
  go_wp2_with fail
  refine (HR _ (HD.out.later HX.out.below) (Hm.out.later HX.out.below)).mono ?_
  rintro e w2 ⟨rfl, hb2⟩
  have HX2 := Lib.hid (HX.out.later hb2)
  obtain ⟨p0, p1, p2, p3, p4, p5⟩ := pk_cells HX2.out (g := w.heap.size) (D := D) (P := P) (by simp)
  clear hb2 HR HX
  go_wp2_with fail
  refine (HK _ (HD.out.later HX2.out.below)).mono ?_
  rintro e w3 ⟨v3, rfl, hO3⟩
  obtain ⟨a3, n3, c3, rfl⟩ := hO3.formA
  have HO3 := Lib.hid (HX2.out.join hO3)
  have hby3 := (HO3.out.only (r := rowU (.slice a3 n3 c3) zs) (by simp)).by hbt
  have hs := sum_any (.slice a3 n3 c3) zs w3 hby3
  clear hO3 HX2 p0 p1 p2 p3 p4 p5 HK
  go_wp2_with fail
  refine hs.mono ?_
  rintro e w4 ⟨v4, rfl, hO4⟩
  obtain ⟨a4, n4, c4, rfl⟩ := hO4.formA
  have HO4 := Lib.hid (HO3.out.join hO4)
  obtain ⟨hk1, _⟩ := packs_any (PS := [(.slice a3 n3 c3, zs), (.slice a4 n4 c4, le4 (crcI zs))]) HO4.out (fun p hp => by
    simp only [List.mem_cons, List.not_mem_nil, or_false] at hp
    rcases hp with rfl | rfl
    · exact ⟨by simp, hbt⟩
    · exact ⟨by simp, hcb⟩) (by show 2 ≤ 1000; decide) (by
    have : (le4 (crcI zs)).length = 4 := rfl
    simp [allOf]
    omega)
  clear hO4 hs HO3 hby3
  have hk2 : Calls Tryz.prog 17 #[.slice (some ⟨w4.heap.size, 0, none⟩) 2 2] (w4.alloc (.cells #[.slice a3 n3 c3, .slice a4 n4 c4] 58)) (fun e w' => ∃ v, e = .returned v ∧ Own w w' (rowU v (allOf [(.slice a3 n3 c3, zs), (.slice a4 n4 c4, le4 (crcI zs))]) :: _)) := hk1
  rw [allOf_two] at hk2
  clear hk1
  go_wp2_with fail
  refine hk2.mono ?_
  rintro e w5 ⟨v5, rfl, hO5⟩
  obtain ⟨a5, n5, c5, rfl⟩ := hO5.formA
  have HO5 := Lib.hid (hO5.only (List.mem_cons_self ..))
  clear hO5 hk2 HO4
  go_wp2_with fail
  go_ret2
  exact ⟨_, rfl, HO5.out⟩
end Go.Proofs.YtihnjhigemhknaaGreatDoor
