/- A package as bytes: the walk. -/
import Derived.Test.YtihnjhigemhknaaGreatDoorAr7
import Derived.Deep.RegionHeld3
namespace Go.Proofs.YtihnjhigemhknaaGreatDoor
open Go.RowKit
set_option linter.unusedVariables false
set_option linter.unusedSimpArgs false
set_option maxRecDepth 100000

set_option maxHeartbeats 16000000 in
theorem pkpack_any (D : PkgD) (P : PkL) (w : World) (hD : PkAt w D P) (hf : Fits D) (hw : FewD D) :
    Calls Tryz.prog 16 #[.agg #[.string D.name, .string D.ver, .slice P.an D.needs.length P.cn, .slice P.ac D.confs.length P.cc, .slice P.af D.files.length P.cf, .slice P.au D.units.length P.cu]] w fun e w' => ∃ v, e = .returned v ∧ Own w w' [rowU v (packP D)] := by
  have HX := Lib.hid (show Own w _ [rowPk w.heap.size D P] from (Own.start w).box6 (.string D.name) (.string D.ver) (.slice P.an D.needs.length P.cn) (.slice P.ac D.confs.length P.cc) (.slice P.af D.files.length P.cf) (.slice P.au D.units.length P.cu) 26)
  have HD := Lib.hid hD
  have l1 := flat_le packN 2000012 D.needs fun n hn => packN_len n (hf.need n hn).1 (hf.need n hn).2
  have l2 := flat_le textL 1000004 D.confs fun s hs => by rw [textL_len]; have := hf.conf s hs; omega
  have l3 := flat_le packF 2000012 D.files fun n hn => packF_len n (hf.file n hn).1 (hf.file n hn).2
  have l4 := flat_le textL 1000004 D.units fun s hs => by rw [textL_len]; have := hf.unit s hs; omega
  have m1 := hw.needs; have m2 := hw.confs; have m3 := hw.files; have m4 := hw.units
  have k1 : (D.needs.map packN).flatten.length ≤ 8 * 2000012 := Nat.le_trans l1 (Nat.mul_le_mul_right _ m1)
  have k2 : (D.confs.map textL).flatten.length ≤ 8 * 1000004 := Nat.le_trans l2 (Nat.mul_le_mul_right _ m2)
  have k3 : (D.files.map packF).flatten.length ≤ 12 * 2000012 := Nat.le_trans l3 (Nat.mul_le_mul_right _ m3)
  have k4 : (D.units.map textL).flatten.length ≤ 4 * 1000004 := Nat.le_trans l4 (Nat.mul_le_mul_right _ m4)
  have b1 := flat_byts packN D.needs fun n hn => packN_byts n (hf.need n hn).1 (hf.need n hn).2 (hw.ways n hn).1 (hw.ways n hn).2
  have b2 := flat_byts textL D.confs fun s hs => textL_byts s (hf.conf s hs)
  have b3 := flat_byts packF D.files fun n hn => packF_byts n (hf.file n hn).1 (hf.file n hn).2 (hD.data n hn).2.1
  have b4 := flat_byts textL D.units fun s hs => textL_byts s (hf.unit s hs)
  have T1 := fun w1 => text_any D.name w1 (by have := hf.name; omega)
  have T2 := fun w1 => text_any D.ver w1 (by have := hf.ver; omega)
  have C1 := fun w1 (k : PkAt w1 D P) => need_list P.an P.cn D.needs packN w1 k.needs (by omega) (fun n hn w' _ => packneed_any n w' (hw.ways n hn).1 (by have := (hw.ways n hn).2; omega) (hf.need n hn).1 (hf.need n hn).2) (fun n hn => packN_byts n (hf.need n hn).1 (hf.need n hn).2 (hw.ways n hn).1 (hw.ways n hn).2) (by omega)
  have C2 := fun w1 (k : PkAt w1 D P) => str_list P.ac P.cc D.confs textL w1 k.confs (by omega) (fun s hs w' _ => text_any s w' (by have := hf.conf s hs; omega)) (fun s hs => textL_byts s (hf.conf s hs)) (by omega)
  have C3 := fun w1 (k : PkAt w1 D P) => file_list P.af P.cf D.files packF w1 k.files (by omega) (fun f hx w' hb' => packfile_any f w' (hf.file f hx).1 (hf.file f hx).2 ((k.data f hx).later hb')) (fun n hn => packF_byts n (hf.file n hn).1 (hf.file n hn).2 (hD.data n hn).2.1) (by omega)
  have C4 := fun w1 (k : PkAt w1 D P) => str_list P.au P.cu D.units textL w1 k.units (by omega) (fun s hs w' _ => text_any s w' (by have := hf.unit s hs; omega)) (fun s hs => textL_byts s (hf.unit s hs)) (by omega)
  have s1 := textL_byts D.name hf.name
  have s2 := textL_byts D.ver hf.ver
  have n1 : (textL D.name).length ≤ 1000004 := by rw [textL_len]; have := hf.name; omega
  have n2 : (textL D.ver).length ≤ 1000004 := by rw [textL_len]; have := hf.ver; omega
  have HG := Lib.hid (show packP D = textL D.name ++ (textL D.ver ++ (sizedL (D.needs.map packN).flatten ++ (sizedL (D.confs.map textL).flatten ++ (sizedL (D.files.map packF).flatten ++ sizedL (D.units.map textL).flatten)))) from rfl)
  simp only [HG.out]
  change ∀ w1, Calls Tryz.prog _ _ w1 fun e w' => ∃ v', e = .returned v' ∧ Own w1 w' [rowU v' (textL D.name)] at T1
  change ∀ w1, Calls Tryz.prog _ _ w1 fun e w' => ∃ v', e = .returned v' ∧ Own w1 w' [rowU v' (textL D.ver)] at T2
  clear HG l1 l2 l3 l4 m1 m2 m3 m4 hf hw hD
  generalize textL D.name = y1 at *
  generalize textL D.ver = y2 at *
  generalize (D.needs.map packN).flatten = z1 at *
  generalize (D.confs.map textL).flatten = z2 at *
  generalize (D.files.map packF).flatten = z3 at *
  generalize (D.units.map textL).flatten = z4 at *
  have t1 := sizedL_byts _ b1 (by omega)
  have t2 := sizedL_byts _ b2 (by omega)
  have t3 := sizedL_byts _ b3 (by omega)
  have t4 := sizedL_byts _ b4 (by omega)
  have hlen : (y1 ++ (y2 ++ (sizedL z1 ++ (sizedL z2 ++ (sizedL z3 ++ sizedL z4))))).length ≤ 1000000000 := by
    simp only [List.length_append, sizedL_length]
    omega
  clear b1 b2 b3 b4 k1 k2 k3 k4 n1 n2
  go_enter Tryz.func16, Tryz.ntmps16
  go_wp2_with fail
  have hBx := HX.out.below
  generalize hH : w.heap.size = H at HX ⊢
  clear hH
  generalize w.alloc (Obj.cells #[Value.string D.name, .string D.ver, .slice P.an D.needs.length P.cn, .slice P.ac D.confs.length P.cc, .slice P.af D.files.length P.cf, .slice P.au D.units.length P.cu] 26) = w1 at *
  obtain ⟨bx, hbx⟩ : ∃ bx, rowPk H D P = bx := ⟨_, rfl⟩
  have HPK := Lib.hid (fun (w' : World) (L : List Rw) (h : Own w w' L) (hm : bx ∈ L) => pk_cells (g := H) (D := D) (P := P) h (hbx ▸ hm))
  rw [hbx] at HX
  clear hbx
  have s0 := HPK.out _ _ HX.out (List.mem_cons_self ..)
  generalize D.name = dnm at *
  generalize D.ver = dvr at *
  generalize D.needs.length = ln at *
  generalize D.confs.length = lc at *
  generalize D.files.length = lf at *
  generalize D.units.length = lu at *
  generalize P.an = an at *
  generalize P.cn = kn at *
  generalize P.ac = ac0 at *
  generalize P.cc = kc at *
  generalize P.af = af0 at *
  generalize P.cf = kf at *
  generalize P.au = au0 at *
  generalize P.cu = ku at *
  obtain ⟨q0, q1, q2, q3, q4, q5⟩ := id s0
  go_region_held3 (fun w' : World => w'.cell? ⟨H, 0, none⟩ = some (.string dnm) ∧ w'.cell? ⟨H, 1, none⟩ = some (.string dvr) ∧ w'.cell? ⟨H, 2, none⟩ = some (.slice an ln kn) ∧ w'.cell? ⟨H, 3, none⟩ = some (.slice ac0 lc kc) ∧ w'.cell? ⟨H, 4, none⟩ = some (.slice af0 lf kf) ∧ w'.cell? ⟨H, 5, none⟩ = some (.slice au0 lu ku)) (first | exact se | exact sh | exact sg | exact sf | exact sd | exact sc | exact sb1 | exact sa | exact s0 | go_keep) (first
    | (go_at_call 17; (first | refine hk1.mono ?_ | refine hk2.mono ?_); rintro e w9 ⟨v9, rfl, hO9⟩; obtain ⟨a9, n9, c9, rfl⟩ := hO9.formA; have HO9 := Lib.hid hO9; have se := HPK.out _ _ hO9 (by simp); clear hO9)
    | (go_at_call 39; have _gate := HOf.out; clear _gate; refine (C4 _ (HD.out.later (by first | exact HOf.out.below | exact HOf.out.drew.below))).mono ?_; rintro e wg ⟨vg, rfl, hOg⟩; obtain ⟨ag, ng, cg, rfl⟩ := hOg.formA; have HOg := Lib.hid (show Own w wg (rowU (.slice ag ng cg) (sizedL z4) :: rowU (.slice af nf cf) (sizedL z3) :: rowU (.slice ad nd cd) (sizedL z2) :: rowU (.slice ac nc cc) (sizedL z1) :: rowU (.slice ab nb cb) (y2) :: rowU (.slice aa na ca) (y1) :: bx :: []) from (by first | exact HOf.out.drew.join hOg | exact HOf.out.join hOg)); have sg := HPK.out _ _ HOg.out (by simp); obtain ⟨qg0, qg1, qg2, qg3, qg4, qg5⟩ := id sg; clear hOg; obtain ⟨hk1, hk2⟩ := packs_any (PS := [(.slice aa na ca, y1), (.slice ab nb cb, y2), (.slice ac nc cc, sizedL z1), (.slice ad nd cd, sizedL z2), (.slice af nf cf, sizedL z3), (.slice ag ng cg, sizedL z4)]) HOg.out (fun p hp => by simp only [List.mem_cons, List.not_mem_nil, or_false] at hp; rcases hp with rfl | rfl | rfl | rfl | rfl | rfl <;> refine ⟨by simp, ?_⟩ <;> assumption) (by show 6 ≤ 1000; decide) (by simpa [allOf] using hlen); have hal := HOg.out.alloc (.cells #[.slice aa na ca, .slice ab nb cb, .slice ac nc cc, .slice ad nd cd, .slice af nf cf, .slice ag ng cg] 58); have sh := HPK.out _ _ hal (by simp); clear hal)
    | (go_at_call 40; have _gate := HOd.out; clear _gate; refine (C3 _ (HD.out.later (by first | exact HOd.out.below | exact HOd.out.drew.below))).mono ?_; rintro e wf ⟨vf, rfl, hOf⟩; obtain ⟨af, nf, cf, rfl⟩ := hOf.formA; have HOf := Lib.hid (show Own w wf (rowU (.slice af nf cf) (sizedL z3) :: rowU (.slice ad nd cd) (sizedL z2) :: rowU (.slice ac nc cc) (sizedL z1) :: rowU (.slice ab nb cb) (y2) :: rowU (.slice aa na ca) (y1) :: bx :: []) from (by first | exact HOd.out.drew.join hOf | exact HOd.out.join hOf)); have sf := HPK.out _ _ HOf.out (by simp); obtain ⟨qf0, qf1, qf2, qf3, qf4, qf5⟩ := id sf; clear hOf)
    | (go_at_call 39; have _gate := HOc.out; clear _gate; refine (C2 _ (HD.out.later (by first | exact HOc.out.below | exact HOc.out.drew.below))).mono ?_; rintro e wd ⟨vd, rfl, hOd⟩; obtain ⟨ad, nd, cd, rfl⟩ := hOd.formA; have HOd := Lib.hid (show Own w wd (rowU (.slice ad nd cd) (sizedL z2) :: rowU (.slice ac nc cc) (sizedL z1) :: rowU (.slice ab nb cb) (y2) :: rowU (.slice aa na ca) (y1) :: bx :: []) from (by first | exact HOc.out.drew.join hOd | exact HOc.out.join hOd)); have sd := HPK.out _ _ HOd.out (by simp); obtain ⟨qd0, qd1, qd2, qd3, qd4, qd5⟩ := id sd; clear hOd)
    | (go_at_call 37; have _gate := HOb.out; clear _gate; refine (C1 _ (HD.out.later (by first | exact HOb.out.below | exact HOb.out.drew.below))).mono ?_; rintro e wc ⟨vc, rfl, hOc⟩; obtain ⟨ac, nc, cc, rfl⟩ := hOc.formA; have HOc := Lib.hid (show Own w wc (rowU (.slice ac nc cc) (sizedL z1) :: rowU (.slice ab nb cb) (y2) :: rowU (.slice aa na ca) (y1) :: bx :: []) from (by first | exact HOb.out.drew.join hOc | exact HOb.out.join hOc)); have sc := HPK.out _ _ HOc.out (by simp); obtain ⟨qc0, qc1, qc2, qc3, qc4, qc5⟩ := id sc; clear hOc)
    | (go_at_call 36; have _gate := HOa.out; clear _gate; refine (T2 _).mono ?_; rintro e wb ⟨vb, rfl, hOb⟩; obtain ⟨ab, nb, cb, rfl⟩ := hOb.formA; have HOb := Lib.hid (show Own w wb (rowU (.slice ab nb cb) (y2) :: rowU (.slice aa na ca) (y1) :: bx :: []) from (by first | exact HOa.out.drew.join hOb | exact HOa.out.join hOb)); have sb1 := HPK.out _ _ HOb.out (by simp); obtain ⟨qb0, qb1, qb2, qb3, qb4, qb5⟩ := id sb1; clear hOb)
    | (go_at_call 36; refine (T1 _).mono ?_; rintro e wa ⟨va, rfl, hOa⟩; obtain ⟨aa, na, ca, rfl⟩ := hOa.formA; have HOa := Lib.hid (show Own w wa (rowU (.slice aa na ca) (y1) :: bx :: []) from (by first | exact HX.out.drew.join hOa | exact HX.out.join hOa)); have sa := HPK.out _ _ HOa.out (by simp); obtain ⟨qa0, qa1, qa2, qa3, qa4, qa5⟩ := id sa; clear hOa))
  go_wp2_with fail
  go_ret
  refine ⟨_, rfl, ?_⟩
  have h9 := HO9.out.only (List.mem_cons_self ..)
  have e9 : allOf [(Value.slice aa na ca, y1), (.slice ab nb cb, y2), (.slice ac nc cc, sizedL z1), (.slice ad nd cd, sizedL z2), (.slice af nf cf, sizedL z3), (.slice ag ng cg, sizedL z4)] = y1 ++ (y2 ++ (sizedL z1 ++ (sizedL z2 ++ (sizedL z3 ++ sizedL z4)))) := by simp [allOf]
  rw [e9] at h9
  exact h9
end Go.Proofs.YtihnjhigemhknaaGreatDoor
