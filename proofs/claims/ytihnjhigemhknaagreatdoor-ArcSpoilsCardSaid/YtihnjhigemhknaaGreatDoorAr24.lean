/- The document's example of package arc. -/
import Derived.Test.YtihnjhigemhknaaGreatDoorAr23
namespace Go.Proofs.YtihnjhigemhknaaGreatDoor
open Go.RowKit
set_option linter.unusedVariables false
set_option linter.unusedSimpArgs false
set_option maxRecDepth 100000

theorem ex_at {w0 w : World} (HO : Own w0 w [rowPk (w0.heap.size + 1 + 1) (exD w0.heap.size) (exP (w0.heap.size + 1)), box3 51 (w0.heap.size + 1) (.string ⟨#[47, 102]⟩) (.bool false) (.slice (some ⟨w0.heap.size, 0, none⟩) 1 1)]) (hB : By w (.slice (some ⟨w0.heap.size, 0, none⟩) 1 1) [120]) : PkAt w (exD w0.heap.size) (exP (w0.heap.size + 1)) := by
  refine ⟨fun i hi => absurd hi (Nat.not_lt_zero _), fun i hi => absurd hi (Nat.not_lt_zero _), fun i hi => ?_, fun i hi => absurd hi (Nat.not_lt_zero _), fun f hf => ?_, Nat.le_refl _⟩
  · obtain rfl : i = 0 := by
      have : i < 1 := hi
      omega
    exact ⟨_, _, rfl, Own.range (h := HO.tail) 0 3⟩
  · obtain rfl : f = _ := List.mem_singleton.1 hf
    exact hB
theorem ex_file {H : Nat} {D' : PkgD} (h : SameP (exD H) D') : ∃ f, D'.files = [f] ∧ f.data = [120] := by
  obtain ⟨hl, hk⟩ := trip_at h.files
  have h1 : D'.files.length = 1 := hl
  match hD : D'.files, h1 with
  | [f], _ =>
    refine ⟨f, rfl, ?_⟩
    have := (hk 0 (by show 0 < 1; decide) (by omega)).2.2
    simp only [hD] at this
    exact this
set_option maxHeartbeats 16000000 in
theorem aalive_any (w : World) (hm : Mx w) : Calls Tryz.prog 6 #[] w fun e w' => e = .returned (.bool true) ∧ Below w.heap.size w w' := by
  have hcs := conv_constA
  have hB1 := by_lit w #[.int .u8 120] 5 (1, 2) [120] rfl (by unfold Byts; decide) (by decide)
  have s1 : w.heap.size + 1 = (w.alloc (.cells #[.int .u8 120] 5 (1, 2))).heap.size := by simp
  have hO1 := (((Own.start w).alloc (.cells #[.int .u8 120] 5 (1, 2))).made_at 51 3 #[.string ⟨#[47, 102]⟩, .bool false, .slice (some ⟨w.heap.size, 0, none⟩) 1 1] 1 (w.heap.size + 1) s1 rfl (by unfold maxLen; decide))
  have s2 : w.heap.size + 1 + 1 = ((w.alloc (.cells #[.int .u8 120] 5 (1, 2))).alloc (.cells #[.string ⟨#[47, 102]⟩, .bool false, .slice (some ⟨w.heap.size, 0, none⟩) 1 1] 51)).heap.size := by simp
  have HO := Lib.hid (show Own w _ [rowPk (w.heap.size + 1 + 1) (exD w.heap.size) (exP (w.heap.size + 1)), box3 51 (w.heap.size + 1) (.string ⟨#[47, 102]⟩) (.bool false) (.slice (some ⟨w.heap.size, 0, none⟩) 1 1)] from
    hO1.made_at 26 6 #[.string ⟨#[97]⟩, .string ⟨#[49]⟩, .slice none 0 0, .slice none 0 0, .slice (some ⟨w.heap.size + 1, 0, none⟩) 1 1, .slice none 0 0] 1 (w.heap.size + 1 + 1) s2 rfl (by unfold maxLen; decide))
  clear s1 s2 hO1
  have HB := Lib.hid (show By ((((w.alloc (.cells #[.int .u8 120] 5 (1, 2))).alloc (.cells #[.string ⟨#[47, 102]⟩, .bool false, .slice (some ⟨w.heap.size, 0, none⟩) 1 1] 51))).alloc (.cells #[.string ⟨#[97]⟩, .string ⟨#[49]⟩, .slice none 0 0, .slice none 0 0, .slice (some ⟨w.heap.size + 1, 0, none⟩) 1 1, .slice none 0 0] 26)) (.slice (some ⟨w.heap.size, 0, none⟩) 1 1) [120] from
    (hB1.later ((Below.refl _ _).alloc (Nat.le_refl _) _)).later ((Below.refl _ _).alloc (Nat.le_refl _) _))
  have Hm := Lib.hid hm
  clear hB1 hm
  go_enter Tryz.func6, Tryz.ntmps6
  go_wp2_with fail
  have hw : Calls Tryz.prog 9 #[.agg #[.string ⟨#[97]⟩, .string ⟨#[49]⟩, .slice none 0 0, .slice none 0 0, .slice (some ⟨w.heap.size + 1, 0, none⟩) 1 1, .slice none 0 0]] _ _ := write_yes (exD w.heap.size) (exP (w.heap.size + 1)) _ (ex_at HO.out HB.out) (ex_small _).fits (Hm.out.later HO.out.below) (ex_ok _)
  refine hw.mono ?_
  rintro e w2 ⟨v2, rfl, hO2⟩
  obtain ⟨a2, c2, rfl, hc2, hc2m⟩ := Own.sized (h := hO2)
  have hbt : Byts (writeP (exD w.heap.size)) := (packP_byts _ (ex_small _).fits (few_of (ex_ok _)) (fun f hf => by
    obtain rfl : f = _ := List.mem_singleton.1 hf
    show Byts [120]
    unfold Byts
    decide)).append (le4_byts _ (crcI_le _).1 (crcI_le _).2)
  have hB2 := hO2.by hbt
  have HRd := Lib.hid (read_own (exD w.heap.size) (ex_small _) (ex_ok _) _ w2 hB2 (Hm.out.later (HO.out.join hO2).below))
  have HX2 := Lib.hid (HO.out.join hO2)
  have HL2 := Lib.hid (HB.out.later hO2.below)
  rw [ex_len] at HRd
  rw [ex_len]
  clear hw hO2 hbt hB2 hc2 HO
  go_wp2_with fail
  refine HRd.out.mono ?_
  rintro e w3 ⟨⟨nm, vr, ns, cs, fs, us⟩, P', hS, hF, hP, hb3, rfl⟩
  obtain ⟨f, hf, hfd⟩ := ex_file hS
  obtain rfl : nm = ⟨#[97]⟩ := hS.name
  obtain rfl : vr = ⟨#[49]⟩ := hS.ver
  obtain rfl : ns = [] := hS.needs
  obtain rfl : cs = [] := hS.confs
  obtain rfl : us = [] := hS.units
  obtain rfl : fs = [f] := hf
  have hsm : pkOk _ = true := (pkOk_same hS).trans (ex_ok _)
  obtain ⟨pa, fc, fa, fcp, fd⟩ := f
  obtain rfl : fd = [120] := hfd
  obtain ⟨an, cn, ac, cc, af, cf, au, cu⟩ := P'
  obtain ⟨g, o, hg, hr⟩ := hP.files 0 (by show 0 < 1; decide)
  obtain rfl : af = some ⟨g, o, none⟩ := hg
  have hD3 := hP.data _ (List.mem_singleton.2 rfl)
  have HP3 := Lib.hid hP
  have HF3 := Lib.hid hF
  have Hok := Lib.hid hsm
  have q2 : w3.cell? ⟨g, o + 2, none⟩ = some (.slice fa 1 fcp) := by
    have := hr 2 _ rfl
    simpa using this
  have HQ := Lib.hid (show w3.cell? ⟨g, o + 2, none⟩ = some (.slice fa 1 fcp) from q2)
  have HD3 := Lib.hid (show By w3 (.slice fa 1 fcp) [120] from hD3)
  dsimp only [List.length_nil, List.length_cons, Nat.zero_add] at *
  have HX3 := Lib.hid (HX2.out.later hb3)
  have HL3 := Lib.hid (HL2.out.later hb3)
  have s4 : w3.heap.size + 1 = (w3.alloc (.cells #[.string ⟨#[97]⟩, .string ⟨#[49]⟩, .slice an 0 cn, .slice ac 0 cc, .slice (some ⟨g, o, none⟩) 1 cf, .slice au 0 cu] 26)).heap.size := by simp
  have HX4 := Lib.hid ((HX3.out.box6 (.string ⟨#[97]⟩) (.string ⟨#[49]⟩) (.slice an 0 cn) (.slice ac 0 cc) (.slice (some ⟨g, o, none⟩) 1 cf) (.slice au 0 cu) 26).alloc (.cells #[.int .u8 102, .int .u8 111, .int .u8 117, .int .u8 114] 5 (4, 5)))
  have hc4 := conv_const_at (w3.alloc (.cells #[.string ⟨#[97]⟩, .string ⟨#[49]⟩, .slice an 0 cn, .slice ac 0 cc, .slice (some ⟨g, o, none⟩) 1 cf, .slice au 0 cu] 26)) #[.int .u8 102, .int .u8 111, .int .u8 117, .int .u8 114] 4 4 (w3.heap.size + 1) s4
  have HB4 := Lib.hid (by_lit_at (w3.alloc (.cells #[.string ⟨#[97]⟩, .string ⟨#[49]⟩, .slice an 0 cn, .slice ac 0 cc, .slice (some ⟨g, o, none⟩) 1 cf, .slice au 0 cu] 26)) #[.int .u8 102, .int .u8 111, .int .u8 117, .int .u8 114] 5 (4, 5) [102, 111, 117, 114] (w3.heap.size + 1) s4 rfl (by unfold Byts; decide) (by decide))
  clear hS hsm hr hP hF hb3 q2 hD3 HRd HX2 s4 hcs
  go_wp2_with fail
  refine (read_any _ _ _ HB4.out (by decide) (Hm.out.later HX4.out.below)).mono ?_
  rintro e w5 (⟨_, rfl, hb5⟩ | ⟨hf4, _⟩)
  case inr => exact absurd hf4 four_no
  have B4 : Below w3.heap.size w3 ((w3.alloc (.cells #[.string ⟨#[97]⟩, .string ⟨#[49]⟩, .slice an 0 cn, .slice ac 0 cc, .slice (some ⟨g, o, none⟩) 1 cf, .slice au 0 cu] 26)).alloc (.cells #[.int .u8 102, .int .u8 111, .int .u8 117, .int .u8 114] 5 (4, 5))) := ((Below.refl _ _).alloc (Nat.le_refl _) _).alloc (by simp) _
  have B5 := Lib.hid (B4.trans (hb5.mono B4.size))
  clear B4
  have HX5 := Lib.hid ((HX4.out.later hb5).alloc (.cells #[.string ⟨#[]⟩, .string ⟨#[]⟩, .slice none 0 0, .slice none 0 0, .slice none 0 0, .slice none 0 0] 26))
  clear hb5 hc4 HB4
  go_wp2_with fail
  refine (read_short _ [] _ (By.nil _) (by decide)).mono ?_
  rintro e w6 ⟨rfl, hb6⟩
  have HX6 := Lib.hid (HX5.out.later hb6)
  have B5a := B5.out.alloc B5.out.size (.cells #[.string ⟨#[]⟩, .string ⟨#[]⟩, .slice none 0 0, .slice none 0 0, .slice none 0 0, .slice none 0 0] 26)
  have B6 := Lib.hid (B5a.trans (hb6.mono B5a.size))
  obtain ⟨⟨c0, c1, c2', c3, c4, c5⟩, _, _⟩ := p6_cells HX6.out (H := w3.heap.size) (a := .string ⟨#[97]⟩) (b := .string ⟨#[49]⟩) (c := .slice an 0 cn) (d := .slice ac 0 cc) (e := .slice (some ⟨g, o, none⟩) 1 cf) (f := .slice au 0 cu) (List.mem_cons_self ..)
  have pk := pk_cells HX6.out (g := w.heap.size + 1 + 1) (D := exD w.heap.size) (P := exP (w.heap.size + 1)) (by simp)
  have e0 : w6.cell? ⟨w.heap.size + 1 + 1, 0, none⟩ = some (.string ⟨#[97]⟩) := pk.1
  have e1 : w6.cell? ⟨w.heap.size + 1 + 1, 1, none⟩ = some (.string ⟨#[49]⟩) := pk.2.1
  have e2 : w6.cell? ⟨w.heap.size + 1 + 1, 2, none⟩ = some (.slice none 0 0) := pk.2.2.1
  have e3 : w6.cell? ⟨w.heap.size + 1 + 1, 3, none⟩ = some (.slice none 0 0) := pk.2.2.2.1
  have e4 : w6.cell? ⟨w.heap.size + 1 + 1, 4, none⟩ = some (.slice (some ⟨w.heap.size + 1, 0, none⟩) 1 1) := pk.2.2.2.2.1
  have e5 : w6.cell? ⟨w.heap.size + 1 + 1, 5, none⟩ = some (.slice none 0 0) := pk.2.2.2.2.2
  have q2 : w6.cell? ⟨g, o + 2, none⟩ = some (.slice fa 1 fcp) := (B6.out.cell (p := ⟨g, o + 2, none⟩) (World.block_lt_of_cell? _ _ HQ.out)).trans HQ.out
  have l1 := World.block_lt_of_cell? _ _ c0
  have l2 := World.block_lt_of_cell? _ _ e0
  have l3 := World.block_lt_of_cell? _ _ q2
  have hex6 := ex_at HX6.out.tail.tail (HL3.out.later B6.out)
  have hz6 : Below w6.heap.size w6 (w6.alloc (.cells #[.string ⟨#[]⟩, .string ⟨#[]⟩, .slice none 0 0, .slice none 0 0, .slice none 0 0, .slice none 0 0] 26)) := (Below.refl _ _).alloc (Nat.le_refl _) _
  have hcv := ((HD3.out.later B6.out).later hz6).toStr
  have HP7 := Lib.hid (hex6.later hz6)
  have HX7 := Lib.hid (HX6.out.later hz6)
  have h120 : strOfNums [120] = ⟨#[120]⟩ := rfl
  rw [h120] at hcv
  clear hb6 pk hex6 hz6 B5a HX5 HX4 HX3 B5 HX6 HP3 HF3 Hok h120 HB
  go_wp2_with fail
  have hw7 : Calls Tryz.prog 10 #[.agg #[.string ⟨#[97]⟩, .string ⟨#[49]⟩, .slice none 0 0, .slice none 0 0, .slice (some ⟨w.heap.size + 1, 0, none⟩) 1 1, .slice none 0 0]] _ _ := pkright_any (exD w.heap.size) (exP (w.heap.size + 1)) _ HP7.out (ex_small _).fits (Hm.out.later HX7.out.below)
  rw [ex_ok] at hw7
  refine hw7.mono ?_
  rintro e w8 ⟨rfl, hb8⟩
  have HX8 := Lib.hid (HX7.out.later hb8)
  clear hw7 hb8 c0 c1 c2' c3 c4 c5 e0 e1 e2 e3 e4 e5 q2 l1 l2 l3 hcv
  go_wp2_with fail
  have hw8 : Calls Tryz.prog 10 #[.agg #[.string ⟨#[]⟩, .string ⟨#[]⟩, .slice none 0 0, .slice none 0 0, .slice none 0 0, .slice none 0 0]] _ _ := pkright_any noD noP w8 (no_at _) no_fits (Hm.out.later HX8.out.below)
  rw [no_ok] at hw8
  refine hw8.mono ?_
  rintro e w9 ⟨rfl, hb9⟩
  have HX9 := Lib.hid (HX8.out.later hb9)
  go_wp2_with fail
  go_ret
  exact ⟨rfl, HX9.out.below⟩
end Go.Proofs.YtihnjhigemhknaaGreatDoor
