/- Texts one behind the other, each in a section of its own: what calls make of memory, step by step. -/
import Derived.Test.YtihnjhigemhknaaGreatDoorTopW2
import Derived.Test.YtihnjhigemhknaaGreatDoorTopW1
import Derived.Deep.RegionHeldLaw
import Derived.Deep.RegionHeld3

/- A package's bytes and their sum, and whether two packages are the same, as the document has it. -/
section
namespace Go.Proofs.YtihnjhigemhknaaGreatDoor
open Go.RowKit
set_option linter.unusedVariables false
set_option linter.unusedSimpArgs false
set_option maxRecDepth 100000

theorem refsumW_any (v : Value) (zs : List Int) (w : World) (h : By w v zs) (hl : zs.length ≤ 100000) : Calls Tryz.prog 15 #[v] w fun e w' => e = .returned (.int .u32 (crcI zs)) ∧ Below w.heap.size w w' :=
  Cr.ref_any v zs w (IsBytes.of_by h) (by omega)
set_option maxHeartbeats 8000000 in
theorem refwrite_any (D : PkgD) (P : PkL) (w : World) (hD : PkAt w D P) (hs : SmallD D) (hway : ∀ n ∈ D.needs, 0 ≤ n.way ∧ n.way < 4294967296) (hbt : Byts (packP D)) :
    Calls Tryz.prog 13 #[.agg #[.string D.name, .string D.ver, .slice P.an D.needs.length P.cn, .slice P.ac D.confs.length P.cc, .slice P.af D.files.length P.cf, .slice P.au D.units.length P.cu]] w fun e w' => ∃ v, e = .returned v ∧ Own w w' [rowU v (writeP D)] := by
  have HX := Lib.hid (show Own w _ [rowQ w.heap.size (pkCells D P)] from (Own.start w).box6 (.string D.name) (.string D.ver) (.slice P.an D.needs.length P.cn) (.slice P.ac D.confs.length P.cc) (.slice P.af D.files.length P.cf) (.slice P.au D.units.length P.cu) 32)
  have hp := refpack_any D P _ (hD.later HX.out.below) hs hway
  have hlen := fits_small hs
  have HW := Lib.hid (show writeP D = packP D ++ le4 (crcI (packP D)) from rfl)
  obtain ⟨Z, hZ⟩ : ∃ Z, packP D = Z := ⟨_, rfl⟩
  obtain ⟨N, hN⟩ : ∃ N, crcI Z = N := ⟨_, rfl⟩
  obtain ⟨hn0, hn1⟩ := crcI_le Z
  rw [hZ] at hp hlen HW hbt
  rw [hN] at HW hn0 hn1
  have HN := Lib.hid hN
  have HB := Lib.hid hbt
  obtain ⟨i0, hi, hz0, hz1, hz2⟩ := info_parts info_u
  clear hD hs hway hZ hN hbt
  go_enter Tryz.func13, Tryz.ntmps13
  go_wp2_with fail
  refine hp.mono ?_
  rintro e w2 ⟨v2, rfl, hO2⟩
  have HO2 := Lib.hid (show Own w w2 (rowU v2 Z :: [rowQ w.heap.size (pkCells D P)]) from HX.out.join hO2)
  have HE := Lib.hid (HO2.out.made 5 1 #[] 0 rfl (by unfold maxLen; decide))
  have HSr := Lib.hid ((hO2.by HB.out).later ((Below.refl _ w2).alloc (Nat.le_refl _) (.cells #[] 5))).1
  clear hO2 hp
  go_wp2_with (at_builtin; refine wpList_append_src rfl (.tmp 6) (.tmp 7) 34 rfl _ 0 [] v2 Z.length (bs Z) rfl rfl HE.out i0 (.int .u8 0) 1 Tryz.underlying34 hi hz0 hz1 hz2 rfl (by decide) HSr.out (by rw [bs_length, Nat.mul_one]) (by unfold maxLen; omega) (by omega) ?_)
  intro v3 w3 hO3
  have HO3 := Lib.hid hO3
  have hB3 := (hO3.tail.only (r := rowU v2 Z) (List.mem_cons_self ..)).by HB.out
  have hsum := refsumW_any v2 Z w3 hB3 hlen
  rw [HN.out] at hsum
  clear hO3 hB3 HE HSr HO2
  go_wp2_with fail
  refine hsum.mono ?_
  rintro e w4 ⟨rfl, hb4⟩
  have HO4 := Lib.hid (HO3.out.later hb4)
  clear hb4 hsum HO3
  go_wp2_with fail
  refine (refbytes_any N w4 hn0 hn1).mono ?_
  rintro e w5 ⟨v5, rfl, hO5⟩
  have HO5 := Lib.hid ((HO4.out.join hO5).swap)
  have HS5 := Lib.hid (hO5.by (le4_byts N hn0 hn1)).1
  clear hO5 HO4
  go_wp2_with (at_builtin; refine wpList_append_src rfl (.tmp 8) (.tmp 12) 34 rfl v3 Z.length (bs Z) v5 4 (bs (le4 N)) rfl rfl HO5.out i0 (.int .u8 0) 1 Tryz.underlying34 hi hz0 hz1 hz2 rfl (by decide) HS5.out (by rw [bs_length]; rfl) (by unfold maxLen; omega) (by omega) ?_)
  intro v6 w6 hO6
  have HO6 := Lib.hid (hO6.only (List.mem_cons_self ..))
  clear hO6 HO5 HS5
  go_wp2_with fail
  go_ret
  refine ⟨_, rfl, ?_⟩
  rw [HW.out]
  unfold rowU
  rw [List.length_append, bs_append]
  exact HO6.out
theorem rowQ_at {W0 : Base} {w : World} {L : List Rw} {H : Nat} {D : PkgD} {P : PkL} (h : Own W0 w L) (hm : rowQ H (pkCells D P) ∈ L) : w.cell? ⟨H, 0, none⟩ = some (.string D.name) ∧ w.cell? ⟨H, 1, none⟩ = some (.string D.ver) ∧ w.cell? ⟨H, 2, none⟩ = some (.slice P.an D.needs.length P.cn) ∧ w.cell? ⟨H, 3, none⟩ = some (.slice P.ac D.confs.length P.cc) ∧ w.cell? ⟨H, 4, none⟩ = some (.slice P.af D.files.length P.cf) ∧ w.cell? ⟨H, 5, none⟩ = some (.slice P.au D.units.length P.cu) :=
  (q6_cells h hm).1
set_option maxHeartbeats 8000000 in
theorem refsame_any (D1 D2 : PkgD) (P1 P2 : PkL) (w : World) (h1 : PkAt w D1 P1) (h2 : PkAt w D2 P2) (s1 : SmallD D1) (s2 : SmallD D2) (y1 : ∀ n ∈ D1.needs, 0 ≤ n.way ∧ n.way < 4294967296) (y2 : ∀ n ∈ D2.needs, 0 ≤ n.way ∧ n.way < 4294967296) (hbt : Byts (packP D2)) (he : packP D1 = packP D2) :
    Calls Tryz.prog 14 #[.agg #[.string D1.name, .string D1.ver, .slice P1.an D1.needs.length P1.cn, .slice P1.ac D1.confs.length P1.cc, .slice P1.af D1.files.length P1.cf, .slice P1.au D1.units.length P1.cu], .agg #[.string D2.name, .string D2.ver, .slice P2.an D2.needs.length P2.cn, .slice P2.ac D2.confs.length P2.cc, .slice P2.af D2.files.length P2.cf, .slice P2.au D2.units.length P2.cu]] w fun e w' => e = .returned (.bool true) ∧ Below w.heap.size w w' := by
  have hO1 := (Own.start w).box6 (.string D1.name) (.string D1.ver) (.slice P1.an D1.needs.length P1.cn) (.slice P1.ac D1.confs.length P1.cc) (.slice P1.af D1.files.length P1.cf) (.slice P1.au D1.units.length P1.cu) 32
  have s0 : w.heap.size + 1 = (w.alloc (.cells #[.string D1.name, .string D1.ver, .slice P1.an D1.needs.length P1.cn, .slice P1.ac D1.confs.length P1.cc, .slice P1.af D1.files.length P1.cf, .slice P1.au D1.units.length P1.cu] 32)).heap.size := by simp
  have HX := Lib.hid (show Own w _ [rowQ (w.heap.size + 1) (pkCells D2 P2), rowQ w.heap.size (pkCells D1 P1)] from hO1.made_at 32 6 #[.string D2.name, .string D2.ver, .slice P2.an D2.needs.length P2.cn, .slice P2.ac D2.confs.length P2.cc, .slice P2.af D2.files.length P2.cf, .slice P2.au D2.units.length P2.cu] 1 (w.heap.size + 1) s0 rfl (by unfold maxLen; decide))
  have HP1 := Lib.hid h1
  have HP2 := Lib.hid h2
  have hp1 := fun W (k : PkAt W D1 P1) => refpack_any D1 P1 W k s1 y1
  have hp2 := fun W (k : PkAt W D2 P2) => refpack_any D2 P2 W k s2 y2
  obtain ⟨Z, hZ⟩ : ∃ Z, packP D2 = Z := ⟨_, rfl⟩
  simp only [he, hZ] at hp1
  simp only [hZ] at hp2
  rw [hZ] at hbt
  have HB := Lib.hid hbt
  clear hO1 s0 h1 h2 s1 s2 y1 y2 he hZ hbt
  go_enter Tryz.func14, Tryz.ntmps14
  go_wp2_with fail
  obtain ⟨w0, hw0⟩ : ∃ w0, (w.alloc (.cells #[.string D1.name, .string D1.ver, .slice P1.an D1.needs.length P1.cn, .slice P1.ac D1.confs.length P1.cc, .slice P1.af D1.files.length P1.cf, .slice P1.au D1.units.length P1.cu] 32)).alloc (.cells #[.string D2.name, .string D2.ver, .slice P2.an D2.needs.length P2.cn, .slice P2.ac D2.confs.length P2.cc, .slice P2.af D2.files.length P2.cf, .slice P2.au D2.units.length P2.cu] 32) = w0 := ⟨_, rfl⟩
  rw [hw0] at HX ⊢
  clear hw0
  have sN : (w0.cell? ⟨w.heap.size, 0, none⟩ = some (.string D1.name) ∧ w0.cell? ⟨w.heap.size, 1, none⟩ = some (.string D1.ver) ∧ w0.cell? ⟨w.heap.size, 2, none⟩ = some (.slice P1.an D1.needs.length P1.cn) ∧ w0.cell? ⟨w.heap.size, 3, none⟩ = some (.slice P1.ac D1.confs.length P1.cc) ∧ w0.cell? ⟨w.heap.size, 4, none⟩ = some (.slice P1.af D1.files.length P1.cf) ∧ w0.cell? ⟨w.heap.size, 5, none⟩ = some (.slice P1.au D1.units.length P1.cu)) ∧ (w0.cell? ⟨(w.heap.size + 1), 0, none⟩ = some (.string D2.name) ∧ w0.cell? ⟨(w.heap.size + 1), 1, none⟩ = some (.string D2.ver) ∧ w0.cell? ⟨(w.heap.size + 1), 2, none⟩ = some (.slice P2.an D2.needs.length P2.cn) ∧ w0.cell? ⟨(w.heap.size + 1), 3, none⟩ = some (.slice P2.ac D2.confs.length P2.cc) ∧ w0.cell? ⟨(w.heap.size + 1), 4, none⟩ = some (.slice P2.af D2.files.length P2.cf) ∧ w0.cell? ⟨(w.heap.size + 1), 5, none⟩ = some (.slice P2.au D2.units.length P2.cu)) := ⟨rowQ_at HX.out (D := D1) (P := P1) (by simp), rowQ_at HX.out (D := D2) (P := P2) (by simp)⟩
  go_region_held_law (fun W : World => (W.cell? ⟨w.heap.size, 0, none⟩ = some (.string D1.name) ∧ W.cell? ⟨w.heap.size, 1, none⟩ = some (.string D1.ver) ∧ W.cell? ⟨w.heap.size, 2, none⟩ = some (.slice P1.an D1.needs.length P1.cn) ∧ W.cell? ⟨w.heap.size, 3, none⟩ = some (.slice P1.ac D1.confs.length P1.cc) ∧ W.cell? ⟨w.heap.size, 4, none⟩ = some (.slice P1.af D1.files.length P1.cf) ∧ W.cell? ⟨w.heap.size, 5, none⟩ = some (.slice P1.au D1.units.length P1.cu)) ∧ (W.cell? ⟨(w.heap.size + 1), 0, none⟩ = some (.string D2.name) ∧ W.cell? ⟨(w.heap.size + 1), 1, none⟩ = some (.string D2.ver) ∧ W.cell? ⟨(w.heap.size + 1), 2, none⟩ = some (.slice P2.an D2.needs.length P2.cn) ∧ W.cell? ⟨(w.heap.size + 1), 3, none⟩ = some (.slice P2.ac D2.confs.length P2.cc) ∧ W.cell? ⟨(w.heap.size + 1), 4, none⟩ = some (.slice P2.af D2.files.length P2.cf) ∧ W.cell? ⟨(w.heap.size + 1), 5, none⟩ = some (.slice P2.au D2.units.length P2.cu))) (first | exact sN | go_keep) (first
    | (have _gate := G1.out; clear _gate; go_at_call 34; refine (hp2 _ (HP2.out.later HO.out.below)).mono ?_; rintro e w9 ⟨v9, rfl, h9⟩; have HO := Lib.hid (HO.out.join h9); have hcv9 := (h9.by HB.out).toStr; have hcv6b := ((HV6.out).later h9.below).toStr; have sN := show (w9.cell? ⟨w.heap.size, 0, none⟩ = some (.string D1.name) ∧ w9.cell? ⟨w.heap.size, 1, none⟩ = some (.string D1.ver) ∧ w9.cell? ⟨w.heap.size, 2, none⟩ = some (.slice P1.an D1.needs.length P1.cn) ∧ w9.cell? ⟨w.heap.size, 3, none⟩ = some (.slice P1.ac D1.confs.length P1.cc) ∧ w9.cell? ⟨w.heap.size, 4, none⟩ = some (.slice P1.af D1.files.length P1.cf) ∧ w9.cell? ⟨w.heap.size, 5, none⟩ = some (.slice P1.au D1.units.length P1.cu)) ∧ (w9.cell? ⟨(w.heap.size + 1), 0, none⟩ = some (.string D2.name) ∧ w9.cell? ⟨(w.heap.size + 1), 1, none⟩ = some (.string D2.ver) ∧ w9.cell? ⟨(w.heap.size + 1), 2, none⟩ = some (.slice P2.an D2.needs.length P2.cn) ∧ w9.cell? ⟨(w.heap.size + 1), 3, none⟩ = some (.slice P2.ac D2.confs.length P2.cc) ∧ w9.cell? ⟨(w.heap.size + 1), 4, none⟩ = some (.slice P2.af D2.files.length P2.cf) ∧ w9.cell? ⟨(w.heap.size + 1), 5, none⟩ = some (.slice P2.au D2.units.length P2.cu)) from ⟨rowQ_at HO.out (D := D1) (P := P1) (by simp), rowQ_at HO.out (D := D2) (P := P2) (by simp)⟩; clear h9)
    | (go_at_call 34; refine (hp1 _ (HP1.out.later (by first | exact HX.out.below | exact HX.out.drew.below))).mono ?_; rintro e w6 ⟨v6, rfl, h6⟩; have G1 := Lib.hid trivial; have HO := Lib.hid (show Own w w6 _ from (by first | exact HX.out.join h6 | exact HX.out.drew.join h6)); have HV6 := Lib.hid (h6.by HB.out); have hcv6 := HV6.out.toStr; have sN := show (w6.cell? ⟨w.heap.size, 0, none⟩ = some (.string D1.name) ∧ w6.cell? ⟨w.heap.size, 1, none⟩ = some (.string D1.ver) ∧ w6.cell? ⟨w.heap.size, 2, none⟩ = some (.slice P1.an D1.needs.length P1.cn) ∧ w6.cell? ⟨w.heap.size, 3, none⟩ = some (.slice P1.ac D1.confs.length P1.cc) ∧ w6.cell? ⟨w.heap.size, 4, none⟩ = some (.slice P1.af D1.files.length P1.cf) ∧ w6.cell? ⟨w.heap.size, 5, none⟩ = some (.slice P1.au D1.units.length P1.cu)) ∧ (w6.cell? ⟨(w.heap.size + 1), 0, none⟩ = some (.string D2.name) ∧ w6.cell? ⟨(w.heap.size + 1), 1, none⟩ = some (.string D2.ver) ∧ w6.cell? ⟨(w.heap.size + 1), 2, none⟩ = some (.slice P2.an D2.needs.length P2.cn) ∧ w6.cell? ⟨(w.heap.size + 1), 3, none⟩ = some (.slice P2.ac D2.confs.length P2.cc) ∧ w6.cell? ⟨(w.heap.size + 1), 4, none⟩ = some (.slice P2.af D2.files.length P2.cf) ∧ w6.cell? ⟨(w.heap.size + 1), 5, none⟩ = some (.slice P2.au D2.units.length P2.cu)) from ⟨rowQ_at HO.out (D := D1) (P := P1) (by simp), rowQ_at HO.out (D := D2) (P := P2) (by simp)⟩; clear h6))
  all_goals go_wp2_with fail
  all_goals go_ret
  all_goals exact ⟨rfl, HO.out.below⟩
end Go.Proofs.YtihnjhigemhknaaGreatDoor
end

/- ArcWrites: its walk. -/
section
namespace Go.Proofs.YtihnjhigemhknaaGreatDoor
open Go.RowKit
set_option linter.unusedVariables false
set_option linter.unusedSimpArgs false
set_option maxRecDepth 100000

theorem small_same {D D' : PkgD} (h : SameP D D') (hs : SmallD D) : SmallD D' := by
  obtain ⟨hl, hk⟩ := trip_at h.files
  refine ⟨by rw [h.name]; exact hs.name, by rw [h.ver]; exact hs.ver, by rw [h.needs]; exact hs.needs, by rw [h.needs]; exact hs.need, by rw [h.confs]; exact hs.confs, by rw [h.confs]; exact hs.conf, by rw [hl]; exact hs.files, fun f hf => ?_, by rw [h.units]; exact hs.units, by rw [h.units]; exact hs.unit⟩
  obtain ⟨i, hi, rfl⟩ := List.getElem_of_mem hf
  obtain ⟨a, _, c⟩ := hk i (by omega) hi
  rw [a, c]
  exact hs.file _ (List.getElem_mem _)
theorem ways_of {D : PkgD} (h : pkOk D = true) : ∀ n ∈ D.needs, 0 ≤ n.way ∧ n.way < 4294967296 := fun n hn => by
  have := (few_of h).ways n hn
  omega
set_option maxHeartbeats 16000000 in
theorem writes_law (D : PkgD) (P : PkL) (w : World) (hD : PkAt w D P) (hr : RoomD D) (hm : Mx w) :
    Calls Tryz.prog 3 #[.agg #[.string D.name, .string D.ver, .slice P.an D.needs.length P.cn, .slice P.ac D.confs.length P.cc, .slice P.af D.files.length P.cf, .slice P.au D.units.length P.cu]] w fun e w' => e = .returned (.bool true) ∧ Below w.heap.size w w' := by
  have HX := Lib.hid (show Own w _ [rowPk w.heap.size D P] from (Own.start w).made 26 6 #[.string D.name, .string D.ver, .slice P.an D.needs.length P.cn, .slice P.ac D.confs.length P.cc, .slice P.af D.files.length P.cf, .slice P.au D.units.length P.cu] 1 rfl (by unfold maxLen; decide))
  have HD := Lib.hid hD
  have Hm := Lib.hid hm
  have HA := fun w1 (h : Mx w1) => aalive_any w1 h
  have HS := fun w1 (h : PkAt w1 D P) => small_any D P w1 h hr
  clear hD hr hm
  go_enter Tryz.func3, Tryz.ntmps3
  go_wp2_with fail
  refine (HA _ (Hm.out.later HX.out.below)).mono ?_
  rintro e w1 ⟨rfl, hb1⟩
  have HX1 := Lib.hid (HX.out.later hb1)
  obtain ⟨p0, p1, p2, p3, p4, p5⟩ := pk_cells HX1.out (g := w.heap.size) (D := D) (P := P) (by simp)
  clear hb1 HA HX
  go_wp2_with fail
  refine (HS _ (HD.out.later HX1.out.below)).mono ?_
  rintro e w2 ⟨hsm, hb2⟩
  have HX2 := Lib.hid (HX1.out.later hb2)
  clear p0 p1 p2 p3 p4 p5 hb2 HS HX1
  rcases hsm with rfl | ⟨rfl, hsm⟩
  · go_wp2_with fail
    go_ret
    exact ⟨rfl, HX2.out.below⟩
  · have HSm := Lib.hid hsm
    obtain ⟨p0, p1, p2, p3, p4, p5⟩ := pk_cells HX2.out (g := w.heap.size) (D := D) (P := P) (by simp)
    go_wp2_with fail
    refine (plain_any D P w2 (HD.out.later HX2.out.below) hsm.fits).mono ?_
    rintro e w3 ⟨P', rfl, hP3, hb3⟩
    have HX3 := Lib.hid (HX2.out.later hb3)
    have HX4 := Lib.hid (show Own w _ [rowQ w3.heap.size (pkCells D P'), rowPk w.heap.size D P] from (HX2.out.later hb3).made 32 6 #[.string D.name, .string D.ver, .slice P'.an D.needs.length P'.cn, .slice P'.ac D.confs.length P'.cc, .slice P'.af D.files.length P'.cf, .slice P'.au D.units.length P'.cu] 1 rfl (by unfold maxLen; decide))
    have HQ4 := Lib.hid (show PkAt (w3.alloc (.cells #[.string D.name, .string D.ver, .slice P'.an D.needs.length P'.cn, .slice P'.ac D.confs.length P'.cc, .slice P'.af D.files.length P'.cf, .slice P'.au D.units.length P'.cu] 32)) D P' from hP3.later ((Below.refl _ _).alloc (Nat.le_refl _) _))
    clear p0 p1 p2 p3 p4 p5 hP3 hb3 HX2 hsm
    obtain ⟨p0, p1, p2, p3, p4, p5⟩ := pk_cells HX3.out (g := w.heap.size) (D := D) (P := P) (by simp)
    have l0 := World.block_lt_of_cell? _ _ p0
    have HR := fun w1 (k : PkAt w1 D P) (k2 : Mx w1) => pkright_any D P w1 k HSm.out.fits k2
    have HRf := fun w1 (k : PkAt w1 D P') => refright_any D P' w1 k HSm.out.fits (by have := HSm.out.ver; omega) (fun n hn => by have := HSm.out.need n hn; omega)
    by_cases hk : pkOk D = true
    · have hbt := packP_byts D HSm.out.fits (few_of hk) fun f hx => (HD.out.data f hx).2.1
      have HBt := Lib.hid hbt
      have hwb : Byts (writeP D) := hbt.append (le4_byts _ (crcI_le (packP D)).1 (crcI_le (packP D)).2)
      have HWb := Lib.hid hwb
      have hwr := fun W (k : PkAt W D P) (k2 : Mx W) => write_yes D P W k HSm.out.fits k2 hk
      have hrd := fun v W => read_own D HSm.out hk v W
      have hrw := fun W (k : PkAt W D P') => refwrite_any D P' W k HSm.out (ways_of hk) hbt
      have Hk := Lib.hid hk
      simp only [hk] at HR HRf
      obtain ⟨Z, hZ⟩ : ∃ Z, writeP D = Z := ⟨_, rfl⟩
      rw [hZ] at HWb
      simp only [hZ] at hwr hrd hrw
      clear hbt hwb hk hZ HX3
      go_wp2_with fail
      refine (hwr _ (HD.out.later HX4.out.below) (Hm.out.later HX4.out.below)).mono ?_
      rintro e w5 ⟨v5, rfl, hO5⟩
      obtain ⟨a5, c5, rfl, _, _⟩ := Own.sized (h := hO5)
      have HX5 := Lib.hid (show Own w w5 [rowU (.slice a5 Z.length c5) Z, rowQ w3.heap.size (pkCells D P'), rowPk w.heap.size D P] from HX4.out.join hO5)
      have HB5 := Lib.hid (hO5.by HWb.out)
      have HQ5 := Lib.hid (HQ4.out.later hO5.below)
      clear p0 p1 p2 p3 p4 p5 l0 hO5 hwr HX4 HQ4
      have sN : (w5.cell? ⟨w3.heap.size, 0, none⟩ = some (.string D.name) ∧ w5.cell? ⟨w3.heap.size, 1, none⟩ = some (.string D.ver) ∧ w5.cell? ⟨w3.heap.size, 2, none⟩ = some (.slice P'.an D.needs.length P'.cn) ∧ w5.cell? ⟨w3.heap.size, 3, none⟩ = some (.slice P'.ac D.confs.length P'.cc) ∧ w5.cell? ⟨w3.heap.size, 4, none⟩ = some (.slice P'.af D.files.length P'.cf) ∧ w5.cell? ⟨w3.heap.size, 5, none⟩ = some (.slice P'.au D.units.length P'.cu)) ∧ (w5.cell? ⟨w.heap.size, 0, none⟩ = some (.string D.name) ∧ w5.cell? ⟨w.heap.size, 1, none⟩ = some (.string D.ver) ∧ w5.cell? ⟨w.heap.size, 2, none⟩ = some (.slice P.an D.needs.length P.cn) ∧ w5.cell? ⟨w.heap.size, 3, none⟩ = some (.slice P.ac D.confs.length P.cc) ∧ w5.cell? ⟨w.heap.size, 4, none⟩ = some (.slice P.af D.files.length P.cf) ∧ w5.cell? ⟨w.heap.size, 5, none⟩ = some (.slice P.au D.units.length P.cu)) := ⟨rowQ_at HX5.out (D := D) (P := P') (by simp), pk_cells HX5.out (g := w.heap.size) (D := D) (P := P) (by simp)⟩
      go_wp2_with fail
      go_region_held3 (fun W : World => (W.cell? ⟨w3.heap.size, 0, none⟩ = some (.string D.name) ∧ W.cell? ⟨w3.heap.size, 1, none⟩ = some (.string D.ver) ∧ W.cell? ⟨w3.heap.size, 2, none⟩ = some (.slice P'.an D.needs.length P'.cn) ∧ W.cell? ⟨w3.heap.size, 3, none⟩ = some (.slice P'.ac D.confs.length P'.cc) ∧ W.cell? ⟨w3.heap.size, 4, none⟩ = some (.slice P'.af D.files.length P'.cf) ∧ W.cell? ⟨w3.heap.size, 5, none⟩ = some (.slice P'.au D.units.length P'.cu)) ∧ (W.cell? ⟨w.heap.size, 0, none⟩ = some (.string D.name) ∧ W.cell? ⟨w.heap.size, 1, none⟩ = some (.string D.ver) ∧ W.cell? ⟨w.heap.size, 2, none⟩ = some (.slice P.an D.needs.length P.cn) ∧ W.cell? ⟨w.heap.size, 3, none⟩ = some (.slice P.ac D.confs.length P.cc) ∧ W.cell? ⟨w.heap.size, 4, none⟩ = some (.slice P.af D.files.length P.cf) ∧ W.cell? ⟨w.heap.size, 5, none⟩ = some (.slice P.au D.units.length P.cu))) (first | exact sN | go_keep) (first
        | (go_at_call 11; refine (HRf _ (HQ6.out)).mono ?_; rintro e w7 ⟨rfl, hb7⟩; have HX7 := Lib.hid (HX6.out.later hb7); have HB7 := Lib.hid (HB6.out.later hb7); have HQ7 := Lib.hid (HQ6.out.later hb7); have sN := show (w7.cell? ⟨w3.heap.size, 0, none⟩ = some (.string D.name) ∧ w7.cell? ⟨w3.heap.size, 1, none⟩ = some (.string D.ver) ∧ w7.cell? ⟨w3.heap.size, 2, none⟩ = some (.slice P'.an D.needs.length P'.cn) ∧ w7.cell? ⟨w3.heap.size, 3, none⟩ = some (.slice P'.ac D.confs.length P'.cc) ∧ w7.cell? ⟨w3.heap.size, 4, none⟩ = some (.slice P'.af D.files.length P'.cf) ∧ w7.cell? ⟨w3.heap.size, 5, none⟩ = some (.slice P'.au D.units.length P'.cu)) ∧ (w7.cell? ⟨w.heap.size, 0, none⟩ = some (.string D.name) ∧ w7.cell? ⟨w.heap.size, 1, none⟩ = some (.string D.ver) ∧ w7.cell? ⟨w.heap.size, 2, none⟩ = some (.slice P.an D.needs.length P.cn) ∧ w7.cell? ⟨w.heap.size, 3, none⟩ = some (.slice P.ac D.confs.length P.cc) ∧ w7.cell? ⟨w.heap.size, 4, none⟩ = some (.slice P.af D.files.length P.cf) ∧ w7.cell? ⟨w.heap.size, 5, none⟩ = some (.slice P.au D.units.length P.cu)) from ⟨rowQ_at HX7.out (D := D) (P := P') (by simp), pk_cells HX7.out (g := w.heap.size) (D := D) (P := P) (by simp)⟩; clear hb7)
        | (go_at_call 10; refine (HR _ (by first | exact HD.out.later HX5.out.below | exact HD.out.later HX5.out.drew.below) (by first | exact Hm.out.later HX5.out.below | exact Hm.out.later HX5.out.drew.below)).mono ?_; rintro e w6 ⟨rfl, hb6⟩; have HX6 := Lib.hid (show Own w w6 _ from (by first | exact HX5.out.later hb6 | exact HX5.out.drew.later hb6)); have HB6 := Lib.hid (show By w6 _ _ from (by first | exact HB5.out.later hb6 | exact HB5.out.drew.later hb6)); have HQ6 := Lib.hid (show PkAt w6 D P' from (by first | exact HQ5.out.later hb6 | exact (HQ5.out.later (Below.refl _ _).drew).later hb6)); have sN := show (w6.cell? ⟨w3.heap.size, 0, none⟩ = some (.string D.name) ∧ w6.cell? ⟨w3.heap.size, 1, none⟩ = some (.string D.ver) ∧ w6.cell? ⟨w3.heap.size, 2, none⟩ = some (.slice P'.an D.needs.length P'.cn) ∧ w6.cell? ⟨w3.heap.size, 3, none⟩ = some (.slice P'.ac D.confs.length P'.cc) ∧ w6.cell? ⟨w3.heap.size, 4, none⟩ = some (.slice P'.af D.files.length P'.cf) ∧ w6.cell? ⟨w3.heap.size, 5, none⟩ = some (.slice P'.au D.units.length P'.cu)) ∧ (w6.cell? ⟨w.heap.size, 0, none⟩ = some (.string D.name) ∧ w6.cell? ⟨w.heap.size, 1, none⟩ = some (.string D.ver) ∧ w6.cell? ⟨w.heap.size, 2, none⟩ = some (.slice P.an D.needs.length P.cn) ∧ w6.cell? ⟨w.heap.size, 3, none⟩ = some (.slice P.ac D.confs.length P.cc) ∧ w6.cell? ⟨w.heap.size, 4, none⟩ = some (.slice P.af D.files.length P.cf) ∧ w6.cell? ⟨w.heap.size, 5, none⟩ = some (.slice P.au D.units.length P.cu)) from ⟨rowQ_at HX6.out (D := D) (P := P') (by simp), pk_cells HX6.out (g := w.heap.size) (D := D) (P := P) (by simp)⟩; clear hb6))
      clear sN
      obtain ⟨p0, p1, p2, p3, p4, p5⟩ := pk_cells HX7.out (g := w.heap.size) (D := D) (P := P) (by simp)
      go_wp2_with fail
      refine (HR _ (HD.out.later HX7.out.below) (Hm.out.later HX7.out.below)).mono ?_
      rintro e w8 ⟨rfl, hb8⟩
      have HX8 := Lib.hid (HX7.out.later hb8)
      have HB8 := Lib.hid (HB7.out.later hb8)
      have HQ8 := Lib.hid (HQ7.out.later hb8)
      clear p0 p1 p2 p3 p4 p5 hb8
      go_wp2_with fail
      refine (hrd _ _ HB8.out (Hm.out.later HX8.out.below)).mono ?_
      rintro e w9 ⟨D', P2, hS, hF2, hP9, hb9, rfl⟩
      have HX9 := Lib.hid (show Own w _ [rowPk w9.heap.size D' P2, rowU (.slice a5 Z.length c5) Z, rowQ w3.heap.size (pkCells D P'), rowPk w.heap.size D P] from (HX8.out.later hb9).made 26 6 #[.string D'.name, .string D'.ver, .slice P2.an D'.needs.length P2.cn, .slice P2.ac D'.confs.length P2.cc, .slice P2.af D'.files.length P2.cf, .slice P2.au D'.units.length P2.cu] 1 rfl (by unfold maxLen; decide))
      have hbz : Below w9.heap.size w9 (w9.alloc (.cells #[.string D'.name, .string D'.ver, .slice P2.an D'.needs.length P2.cn, .slice P2.ac D'.confs.length P2.cc, .slice P2.af D'.files.length P2.cf, .slice P2.au D'.units.length P2.cu] 26)) := (Below.refl _ _).alloc (Nat.le_refl _) _
      have HB9 := Lib.hid ((HB8.out.later hb9).later hbz)
      have HQ9 := Lib.hid ((HQ8.out.later hb9).later hbz)
      have HP9 := Lib.hid (hP9.later hbz)
      have HSm2 := Lib.hid (small_same hS HSm.out)
      have hpk2 := packP_same hS
      have hk2 : pkOk D' = true := (pkOk_same hS).trans Hk.out
      have hpl := fun W (k : PkAt W D' P2) => plain_any D' P2 W k HSm2.out.fits
      have hsame := fun (P3 : PkL) W (k : PkAt W D' P3) (k2 : PkAt W D P') => refsame_any D' D P3 P' W k k2 HSm2.out HSm.out (ways_of hk2) (ways_of Hk.out) HBt.out hpk2
      clear hb9 hbz hP9 hS hF2 HX8 HB8 HQ8 hrd hpk2 hk2
      go_wp2_with fail
      obtain ⟨W9, hW9⟩ : ∃ W9, w9.alloc (.cells #[.string D'.name, .string D'.ver, .slice P2.an D'.needs.length P2.cn, .slice P2.ac D'.confs.length P2.cc, .slice P2.af D'.files.length P2.cf, .slice P2.au D'.units.length P2.cu] 26) = W9 := ⟨_, rfl⟩
      rw [hW9] at HX9 HB9 HQ9 HP9 ⊢
      clear hW9
      have hcv := HB9.out.toStr
      have sN : (W9.cell? ⟨w3.heap.size, 0, none⟩ = some (.string D.name) ∧ W9.cell? ⟨w3.heap.size, 1, none⟩ = some (.string D.ver) ∧ W9.cell? ⟨w3.heap.size, 2, none⟩ = some (.slice P'.an D.needs.length P'.cn) ∧ W9.cell? ⟨w3.heap.size, 3, none⟩ = some (.slice P'.ac D.confs.length P'.cc) ∧ W9.cell? ⟨w3.heap.size, 4, none⟩ = some (.slice P'.af D.files.length P'.cf) ∧ W9.cell? ⟨w3.heap.size, 5, none⟩ = some (.slice P'.au D.units.length P'.cu)) ∧ (W9.cell? ⟨w9.heap.size, 0, none⟩ = some (.string D'.name) ∧ W9.cell? ⟨w9.heap.size, 1, none⟩ = some (.string D'.ver) ∧ W9.cell? ⟨w9.heap.size, 2, none⟩ = some (.slice P2.an D'.needs.length P2.cn) ∧ W9.cell? ⟨w9.heap.size, 3, none⟩ = some (.slice P2.ac D'.confs.length P2.cc) ∧ W9.cell? ⟨w9.heap.size, 4, none⟩ = some (.slice P2.af D'.files.length P2.cf) ∧ W9.cell? ⟨w9.heap.size, 5, none⟩ = some (.slice P2.au D'.units.length P2.cu)) ∧ Sem.run Tryz.prog (convert 34 9 (.slice a5 Z.length c5)) W9 = .ok (.string (strOfNums Z)) W9 := ⟨rowQ_at HX9.out (D := D) (P := P') (by simp), pk_cells HX9.out (g := w9.heap.size) (D := D') (P := P2) (by simp), hcv⟩
      have sN0 := (show (W9.cell? ⟨w3.heap.size, 0, none⟩ = some (.string D.name) ∧ W9.cell? ⟨w3.heap.size, 1, none⟩ = some (.string D.ver) ∧ W9.cell? ⟨w3.heap.size, 2, none⟩ = some (.slice P'.an D.needs.length P'.cn) ∧ W9.cell? ⟨w3.heap.size, 3, none⟩ = some (.slice P'.ac D.confs.length P'.cc) ∧ W9.cell? ⟨w3.heap.size, 4, none⟩ = some (.slice P'.af D.files.length P'.cf) ∧ W9.cell? ⟨w3.heap.size, 5, none⟩ = some (.slice P'.au D.units.length P'.cu)) ∧ (W9.cell? ⟨w9.heap.size, 0, none⟩ = some (.string D'.name) ∧ W9.cell? ⟨w9.heap.size, 1, none⟩ = some (.string D'.ver) ∧ W9.cell? ⟨w9.heap.size, 2, none⟩ = some (.slice P2.an D'.needs.length P2.cn) ∧ W9.cell? ⟨w9.heap.size, 3, none⟩ = some (.slice P2.ac D'.confs.length P2.cc) ∧ W9.cell? ⟨w9.heap.size, 4, none⟩ = some (.slice P2.af D'.files.length P2.cf) ∧ W9.cell? ⟨w9.heap.size, 5, none⟩ = some (.slice P2.au D'.units.length P2.cu)) ∧ Sem.run Tryz.prog (convert 34 9 (.slice a5 Z.length c5)) W9.drew = .ok (.string (strOfNums Z)) W9.drew from ⟨sN.1, sN.2.1, HB9.out.drew.toStr⟩)
      clear hcv HR HRf
      go_region_held_law (fun W : World => (W.cell? ⟨w3.heap.size, 0, none⟩ = some (.string D.name) ∧ W.cell? ⟨w3.heap.size, 1, none⟩ = some (.string D.ver) ∧ W.cell? ⟨w3.heap.size, 2, none⟩ = some (.slice P'.an D.needs.length P'.cn) ∧ W.cell? ⟨w3.heap.size, 3, none⟩ = some (.slice P'.ac D.confs.length P'.cc) ∧ W.cell? ⟨w3.heap.size, 4, none⟩ = some (.slice P'.af D.files.length P'.cf) ∧ W.cell? ⟨w3.heap.size, 5, none⟩ = some (.slice P'.au D.units.length P'.cu)) ∧ (W.cell? ⟨w9.heap.size, 0, none⟩ = some (.string D'.name) ∧ W.cell? ⟨w9.heap.size, 1, none⟩ = some (.string D'.ver) ∧ W.cell? ⟨w9.heap.size, 2, none⟩ = some (.slice P2.an D'.needs.length P2.cn) ∧ W.cell? ⟨w9.heap.size, 3, none⟩ = some (.slice P2.ac D'.confs.length P2.cc) ∧ W.cell? ⟨w9.heap.size, 4, none⟩ = some (.slice P2.af D'.files.length P2.cf) ∧ W.cell? ⟨w9.heap.size, 5, none⟩ = some (.slice P2.au D'.units.length P2.cu)) ∧ Sem.run Tryz.prog (convert 34 9 (.slice a5 Z.length c5)) W = .ok (.string (strOfNums Z)) W) (first | exact sN | exact sN0 | go_keep) (first
        | (have _gate := G2.out; clear _gate; go_at_call 14; refine (hsame P3 _ HP3.out HQb.out).mono ?_; rintro e w12 ⟨rfl, hb12⟩; have HXc := Lib.hid (HXb.out.later hb12); have hcvc := (HVb.out.later hb12).toStr; have sN := show (w12.cell? ⟨w3.heap.size, 0, none⟩ = some (.string D.name) ∧ w12.cell? ⟨w3.heap.size, 1, none⟩ = some (.string D.ver) ∧ w12.cell? ⟨w3.heap.size, 2, none⟩ = some (.slice P'.an D.needs.length P'.cn) ∧ w12.cell? ⟨w3.heap.size, 3, none⟩ = some (.slice P'.ac D.confs.length P'.cc) ∧ w12.cell? ⟨w3.heap.size, 4, none⟩ = some (.slice P'.af D.files.length P'.cf) ∧ w12.cell? ⟨w3.heap.size, 5, none⟩ = some (.slice P'.au D.units.length P'.cu)) ∧ (w12.cell? ⟨w9.heap.size, 0, none⟩ = some (.string D'.name) ∧ w12.cell? ⟨w9.heap.size, 1, none⟩ = some (.string D'.ver) ∧ w12.cell? ⟨w9.heap.size, 2, none⟩ = some (.slice P2.an D'.needs.length P2.cn) ∧ w12.cell? ⟨w9.heap.size, 3, none⟩ = some (.slice P2.ac D'.confs.length P2.cc) ∧ w12.cell? ⟨w9.heap.size, 4, none⟩ = some (.slice P2.af D'.files.length P2.cf) ∧ w12.cell? ⟨w9.heap.size, 5, none⟩ = some (.slice P2.au D'.units.length P2.cu)) ∧ Sem.run Tryz.prog (convert 34 9 (.slice a5 Z.length c5)) w12 = .ok (.string (strOfNums Z)) w12 from ⟨rowQ_at HXc.out (D := D) (P := P') (by simp), pk_cells HXc.out (g := w9.heap.size) (D := D') (P := P2) (by simp), (HBb.out.later hb12).toStr⟩; clear hb12)
        | (have _gate := G1.out; clear _gate; go_at_call 8; refine (hpl _ HPa.out).mono ?_; rintro e w11 ⟨P3, rfl, hP3, hb11⟩; have G2 := Lib.hid trivial; have HXb := Lib.hid (HXa.out.later hb11); have HBb := Lib.hid (HBa.out.later hb11); have HQb := Lib.hid (HQa.out.later hb11); have HVb := Lib.hid (HVa.out.later hb11); have HP3 := Lib.hid hP3; have hcvb := HVb.out.toStr; have sN := show (w11.cell? ⟨w3.heap.size, 0, none⟩ = some (.string D.name) ∧ w11.cell? ⟨w3.heap.size, 1, none⟩ = some (.string D.ver) ∧ w11.cell? ⟨w3.heap.size, 2, none⟩ = some (.slice P'.an D.needs.length P'.cn) ∧ w11.cell? ⟨w3.heap.size, 3, none⟩ = some (.slice P'.ac D.confs.length P'.cc) ∧ w11.cell? ⟨w3.heap.size, 4, none⟩ = some (.slice P'.af D.files.length P'.cf) ∧ w11.cell? ⟨w3.heap.size, 5, none⟩ = some (.slice P'.au D.units.length P'.cu)) ∧ (w11.cell? ⟨w9.heap.size, 0, none⟩ = some (.string D'.name) ∧ w11.cell? ⟨w9.heap.size, 1, none⟩ = some (.string D'.ver) ∧ w11.cell? ⟨w9.heap.size, 2, none⟩ = some (.slice P2.an D'.needs.length P2.cn) ∧ w11.cell? ⟨w9.heap.size, 3, none⟩ = some (.slice P2.ac D'.confs.length P2.cc) ∧ w11.cell? ⟨w9.heap.size, 4, none⟩ = some (.slice P2.af D'.files.length P2.cf) ∧ w11.cell? ⟨w9.heap.size, 5, none⟩ = some (.slice P2.au D'.units.length P2.cu)) ∧ Sem.run Tryz.prog (convert 34 9 (.slice a5 Z.length c5)) w11 = .ok (.string (strOfNums Z)) w11 from ⟨rowQ_at HXb.out (D := D) (P := P') (by simp), pk_cells HXb.out (g := w9.heap.size) (D := D') (P := P2) (by simp), HBb.out.toStr⟩; clear hb11 hP3)
        | (go_at_call 13; refine (hrw _ (by first | exact HQ9.out | exact HQ9.out.later (Below.refl _ _).drew)).mono ?_; rintro e w10 ⟨v10, rfl, h10⟩; have G1 := Lib.hid trivial; have HXa := Lib.hid (show Own w w10 _ from (by first | exact HX9.out.join h10 | exact HX9.out.drew.join h10)); have hb10 := (show Below W9.heap.size W9 w10 from by first | exact h10.below | exact ((Below.refl _ W9).drew).trans (h10.below.mono (Nat.le_refl _))); have HBa := Lib.hid (HB9.out.later hb10); have HQa := Lib.hid (HQ9.out.later hb10); have HPa := Lib.hid (HP9.out.later hb10); have HVa := Lib.hid (h10.by HWb.out); have hcva := HVa.out.toStr; have sN := show (w10.cell? ⟨w3.heap.size, 0, none⟩ = some (.string D.name) ∧ w10.cell? ⟨w3.heap.size, 1, none⟩ = some (.string D.ver) ∧ w10.cell? ⟨w3.heap.size, 2, none⟩ = some (.slice P'.an D.needs.length P'.cn) ∧ w10.cell? ⟨w3.heap.size, 3, none⟩ = some (.slice P'.ac D.confs.length P'.cc) ∧ w10.cell? ⟨w3.heap.size, 4, none⟩ = some (.slice P'.af D.files.length P'.cf) ∧ w10.cell? ⟨w3.heap.size, 5, none⟩ = some (.slice P'.au D.units.length P'.cu)) ∧ (w10.cell? ⟨w9.heap.size, 0, none⟩ = some (.string D'.name) ∧ w10.cell? ⟨w9.heap.size, 1, none⟩ = some (.string D'.ver) ∧ w10.cell? ⟨w9.heap.size, 2, none⟩ = some (.slice P2.an D'.needs.length P2.cn) ∧ w10.cell? ⟨w9.heap.size, 3, none⟩ = some (.slice P2.ac D'.confs.length P2.cc) ∧ w10.cell? ⟨w9.heap.size, 4, none⟩ = some (.slice P2.af D'.files.length P2.cf) ∧ w10.cell? ⟨w9.heap.size, 5, none⟩ = some (.slice P2.au D'.units.length P2.cu)) ∧ Sem.run Tryz.prog (convert 34 9 (.slice a5 Z.length c5)) w10 = .ok (.string (strOfNums Z)) w10 from ⟨rowQ_at HXa.out (D := D) (P := P') (by simp), pk_cells HXa.out (g := w9.heap.size) (D := D') (P := P2) (by simp), HBa.out.toStr⟩; clear h10 hb10))
      all_goals (go_wp2_with fail; go_ret)
      all_goals exact ⟨rfl, HXc.out.below⟩
    · have hk0 : pkOk D = false := by simpa using hk
      have hwr := fun W (k : PkAt W D P) (k2 : Mx W) => write_no D P W k HSm.out.fits k2 hk0
      simp only [hk0] at HR HRf
      clear hk hk0 HX3
      go_wp2_with fail
      refine (hwr _ (HD.out.later HX4.out.below) (Hm.out.later HX4.out.below)).mono ?_
      rintro e w5 ⟨rfl, hb5⟩
      have HX5 := Lib.hid (HX4.out.later hb5)
      have HQ5 := Lib.hid (HQ4.out.later hb5)
      clear p0 p1 p2 p3 p4 p5 l0 hb5 hwr HX4 HQ4
      have sN : (w5.cell? ⟨w3.heap.size, 0, none⟩ = some (.string D.name) ∧ w5.cell? ⟨w3.heap.size, 1, none⟩ = some (.string D.ver) ∧ w5.cell? ⟨w3.heap.size, 2, none⟩ = some (.slice P'.an D.needs.length P'.cn) ∧ w5.cell? ⟨w3.heap.size, 3, none⟩ = some (.slice P'.ac D.confs.length P'.cc) ∧ w5.cell? ⟨w3.heap.size, 4, none⟩ = some (.slice P'.af D.files.length P'.cf) ∧ w5.cell? ⟨w3.heap.size, 5, none⟩ = some (.slice P'.au D.units.length P'.cu)) ∧ (w5.cell? ⟨w.heap.size, 0, none⟩ = some (.string D.name) ∧ w5.cell? ⟨w.heap.size, 1, none⟩ = some (.string D.ver) ∧ w5.cell? ⟨w.heap.size, 2, none⟩ = some (.slice P.an D.needs.length P.cn) ∧ w5.cell? ⟨w.heap.size, 3, none⟩ = some (.slice P.ac D.confs.length P.cc) ∧ w5.cell? ⟨w.heap.size, 4, none⟩ = some (.slice P.af D.files.length P.cf) ∧ w5.cell? ⟨w.heap.size, 5, none⟩ = some (.slice P.au D.units.length P.cu)) := ⟨rowQ_at HX5.out (D := D) (P := P') (by simp), pk_cells HX5.out (g := w.heap.size) (D := D) (P := P) (by simp)⟩
      go_wp2_with fail
      go_region_held3 (fun W : World => (W.cell? ⟨w3.heap.size, 0, none⟩ = some (.string D.name) ∧ W.cell? ⟨w3.heap.size, 1, none⟩ = some (.string D.ver) ∧ W.cell? ⟨w3.heap.size, 2, none⟩ = some (.slice P'.an D.needs.length P'.cn) ∧ W.cell? ⟨w3.heap.size, 3, none⟩ = some (.slice P'.ac D.confs.length P'.cc) ∧ W.cell? ⟨w3.heap.size, 4, none⟩ = some (.slice P'.af D.files.length P'.cf) ∧ W.cell? ⟨w3.heap.size, 5, none⟩ = some (.slice P'.au D.units.length P'.cu)) ∧ (W.cell? ⟨w.heap.size, 0, none⟩ = some (.string D.name) ∧ W.cell? ⟨w.heap.size, 1, none⟩ = some (.string D.ver) ∧ W.cell? ⟨w.heap.size, 2, none⟩ = some (.slice P.an D.needs.length P.cn) ∧ W.cell? ⟨w.heap.size, 3, none⟩ = some (.slice P.ac D.confs.length P.cc) ∧ W.cell? ⟨w.heap.size, 4, none⟩ = some (.slice P.af D.files.length P.cf) ∧ W.cell? ⟨w.heap.size, 5, none⟩ = some (.slice P.au D.units.length P.cu))) (first | exact sN | go_keep) (first
        | (go_at_call 11; refine (HRf _ (HQ6.out)).mono ?_; rintro e w7 ⟨rfl, hb7⟩; have HX7 := Lib.hid (HX6.out.later hb7); have sN := show (w7.cell? ⟨w3.heap.size, 0, none⟩ = some (.string D.name) ∧ w7.cell? ⟨w3.heap.size, 1, none⟩ = some (.string D.ver) ∧ w7.cell? ⟨w3.heap.size, 2, none⟩ = some (.slice P'.an D.needs.length P'.cn) ∧ w7.cell? ⟨w3.heap.size, 3, none⟩ = some (.slice P'.ac D.confs.length P'.cc) ∧ w7.cell? ⟨w3.heap.size, 4, none⟩ = some (.slice P'.af D.files.length P'.cf) ∧ w7.cell? ⟨w3.heap.size, 5, none⟩ = some (.slice P'.au D.units.length P'.cu)) ∧ (w7.cell? ⟨w.heap.size, 0, none⟩ = some (.string D.name) ∧ w7.cell? ⟨w.heap.size, 1, none⟩ = some (.string D.ver) ∧ w7.cell? ⟨w.heap.size, 2, none⟩ = some (.slice P.an D.needs.length P.cn) ∧ w7.cell? ⟨w.heap.size, 3, none⟩ = some (.slice P.ac D.confs.length P.cc) ∧ w7.cell? ⟨w.heap.size, 4, none⟩ = some (.slice P.af D.files.length P.cf) ∧ w7.cell? ⟨w.heap.size, 5, none⟩ = some (.slice P.au D.units.length P.cu)) from ⟨rowQ_at HX7.out (D := D) (P := P') (by simp), pk_cells HX7.out (g := w.heap.size) (D := D) (P := P) (by simp)⟩; clear hb7)
        | (go_at_call 10; refine (HR _ (by first | exact HD.out.later HX5.out.below | exact HD.out.later HX5.out.drew.below) (by first | exact Hm.out.later HX5.out.below | exact Hm.out.later HX5.out.drew.below)).mono ?_; rintro e w6 ⟨rfl, hb6⟩; have HX6 := Lib.hid (show Own w w6 _ from (by first | exact HX5.out.later hb6 | exact HX5.out.drew.later hb6)); have HQ6 := Lib.hid (show PkAt w6 D P' from (by first | exact HQ5.out.later hb6 | exact (HQ5.out.later (Below.refl _ _).drew).later hb6)); have sN := show (w6.cell? ⟨w3.heap.size, 0, none⟩ = some (.string D.name) ∧ w6.cell? ⟨w3.heap.size, 1, none⟩ = some (.string D.ver) ∧ w6.cell? ⟨w3.heap.size, 2, none⟩ = some (.slice P'.an D.needs.length P'.cn) ∧ w6.cell? ⟨w3.heap.size, 3, none⟩ = some (.slice P'.ac D.confs.length P'.cc) ∧ w6.cell? ⟨w3.heap.size, 4, none⟩ = some (.slice P'.af D.files.length P'.cf) ∧ w6.cell? ⟨w3.heap.size, 5, none⟩ = some (.slice P'.au D.units.length P'.cu)) ∧ (w6.cell? ⟨w.heap.size, 0, none⟩ = some (.string D.name) ∧ w6.cell? ⟨w.heap.size, 1, none⟩ = some (.string D.ver) ∧ w6.cell? ⟨w.heap.size, 2, none⟩ = some (.slice P.an D.needs.length P.cn) ∧ w6.cell? ⟨w.heap.size, 3, none⟩ = some (.slice P.ac D.confs.length P.cc) ∧ w6.cell? ⟨w.heap.size, 4, none⟩ = some (.slice P.af D.files.length P.cf) ∧ w6.cell? ⟨w.heap.size, 5, none⟩ = some (.slice P.au D.units.length P.cu)) from ⟨rowQ_at HX6.out (D := D) (P := P') (by simp), pk_cells HX6.out (g := w.heap.size) (D := D) (P := P) (by simp)⟩; clear hb6))
      clear sN
      obtain ⟨p0, p1, p2, p3, p4, p5⟩ := pk_cells HX7.out (g := w.heap.size) (D := D) (P := P) (by simp)
      go_wp2_with fail
      refine (HR _ (HD.out.later HX7.out.below) (Hm.out.later HX7.out.below)).mono ?_
      rintro e w8 ⟨rfl, hb8⟩
      have HX8 := Lib.hid (HX7.out.later hb8)
      clear p0 p1 p2 p3 p4 p5 hb8
      go_wp2_with fail
      go_ret
      exact ⟨rfl, HX8.out.below⟩
end Go.Proofs.YtihnjhigemhknaaGreatDoor
end
