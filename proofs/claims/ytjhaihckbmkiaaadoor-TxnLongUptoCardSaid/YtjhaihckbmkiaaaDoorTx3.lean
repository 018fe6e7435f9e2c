/- An upgrade as bytes. -/
import Derived.Test.YtjhaihckbmkiaaaDoorTx2
import Derived.Deep.RegionHeld3
namespace Go.Proofs.YtjhaihckbmkiaaaDoor
open Go.RowKit
set_option linter.unusedVariables false
set_option linter.unusedSimpArgs false
set_option maxRecDepth 100000

def packT (D : TxD) : List Int := le4m D.phase ++ (le4m D.done ++ (sizedL (D.moves.map packM).flatten ++ (sizedL (D.come.map textB).flatten ++ sizedL (D.gone.map textB).flatten)))
theorem packT_len (D : TxD) : (packT D).length = 20 + (D.moves.map packM).flatten.length + (D.come.map textB).flatten.length + (D.gone.map textB).flatten.length := by
  unfold packT
  simp only [List.length_append, le4m_length, sizedL_length]
  omega
theorem packT_byts (D : TxD) (hf : TxFits D) (hl : (packT D).length ≤ 1000000000) : Byts (packT D) := by
  rw [packT_len] at hl
  exact (le4m_byts _).append ((le4m_byts _).append ((sizedL_byts _ (flat_byts packM D.moves fun n hn => packM_byts n (hf.move n hn)) (by omega)).append ((sizedL_byts _ (flat_byts textB D.come fun n hn => textB_byts n (hf.comes n hn)) (by omega)).append (sizedL_byts _ (flat_byts textB D.gone fun n hn => textB_byts n (hf.gones n hn)) (by omega)))))
abbrev boxM (H : Nat) (k : Int) (p : ByteArray) : Rw := ⟨36, 2, .slice (some ⟨H, 0, none⟩) 1 1, 1, [.int .i64 k, .string p]⟩
theorem boxM_cells {W0 : Base} {w : World} {L : List Rw} {H : Nat} {k : Int} {p : ByteArray} (h : Own W0 w L) (hm : boxM H k p ∈ L) : w.cell? ⟨H, 0, none⟩ = some (.int .i64 k) ∧ w.cell? ⟨H, 1, none⟩ = some (.string p) := by
  have h1 := h.only hm
  exact ⟨Own.cell (h := h1) 0 (by decide), Own.cell (h := h1) 1 (by decide)⟩
theorem t5_five {W0 : Base} {w : World} {L : List Rw} {H : Nat} {a b c d e : Value} (h : Own W0 w L) (hm : rowT5 H [a, b, c, d, e] ∈ L) : w.cell? ⟨H, 0, none⟩ = some a ∧ w.cell? ⟨H, 1, none⟩ = some b ∧ w.cell? ⟨H, 2, none⟩ = some c ∧ w.cell? ⟨H, 3, none⟩ = some d ∧ w.cell? ⟨H, 4, none⟩ = some e := (t5_cells h hm).1
set_option maxHeartbeats 16000000 in
theorem txpack_any (D : TxD) (P : TxP) (w : World) (hD : TxAt w D P) (hf : TxFits D) (hl : (packT D).length ≤ 1000000000) :
    Calls Tryd.prog 9 #[.agg #[.int .i64 D.phase, .int .i64 D.done, .slice P.am D.moves.length P.cm, .slice P.ac D.come.length P.cc, .slice P.ag D.gone.length P.cg]] w fun e w' => ∃ v, e = .returned v ∧ Own w w' [rowU v (packT D)] := by
  have hll := hl
  rw [packT_len] at hll
  obtain ⟨hD1, hD2, hD3⟩ := hD
  have HD1 := Lib.hid hD1
  have b1 := flat_byts packM D.moves fun n hn => packM_byts n (hf.move n hn)
  have b2 := flat_byts textB D.come fun n hn => textB_byts n (hf.comes n hn)
  have b3 := flat_byts textB D.gone fun n hn => textB_byts n (hf.gones n hn)
  have C2 := Lib.hid (fun w1 (hb : Below w.heap.size w w1) => names_pack P.ac P.cc D.come w1 (hD2.later hb) hf.come hf.comes (by omega))
  have C3 := Lib.hid (fun w1 (hb : Below w.heap.size w w1) => names_pack P.ag P.cg D.gone w1 (hD3.later hb) hf.gone hf.gones (by omega))
  have HZ := Lib.hid hf.move
  have hn1 := hf.moves
  have HG := Lib.hid (show packT D = le4m D.phase ++ (le4m D.done ++ (sizedL (D.moves.map packM).flatten ++ (sizedL (D.come.map textB).flatten ++ sizedL (D.gone.map textB).flatten))) from rfl)
  have HX := Lib.hid (show Own w _ [rowT5 w.heap.size [.int .i64 D.phase, .int .i64 D.done, .slice P.am D.moves.length P.cm, .slice P.ac D.come.length P.cc, .slice P.ag D.gone.length P.cg]] from (Own.start w).box5 (.int .i64 D.phase) (.int .i64 D.done) (.slice P.am D.moves.length P.cm) (.slice P.ac D.come.length P.cc) (.slice P.ag D.gone.length P.cg) 27)
  obtain ⟨G, hG⟩ : ∃ G, packT D = G := ⟨_, rfl⟩
  rw [hG] at HG ⊢
  clear hG hD1 hD2 hD3 hf hl
  obtain ⟨ph, dn, mv, co, gn⟩ := D
  obtain ⟨am, cm, ac0, kc, ag0, kg⟩ := P
  dsimp only at *
  generalize (co.map textB).flatten = z2 at *
  generalize (gn.map textB).flatten = z3 at *
  generalize co.length = lc at *
  generalize gn.length = lg at *
  have Hll := Lib.hid hll
  have HB1 := Lib.hid b1
  have HB2 := Lib.hid (sizedL_byts _ b2 (by omega))
  have HB3 := Lib.hid (sizedL_byts _ b3 (by omega))
  clear hll b1 b2 b3
  obtain ⟨inf, hi0, hi1, hi2, hi3⟩ := part_infoA
  have Hi0 := Lib.hid hi0
  have Hi1 := Lib.hid hi1
  have Hi2 := Lib.hid hi2
  have Hi3 := Lib.hid hi3
  clear hi0 hi1 hi2 hi3
  go_enter Tryd.func9, Tryd.ntmps9
  go_wp2_with fail
  generalize hH : w.heap.size = H at HX ⊢
  generalize w.alloc (Obj.cells #[Value.int .i64 ph, .int .i64 dn, .slice am mv.length cm, .slice ac0 lc kc, .slice ag0 lg kg] 27) = w1 at *
  obtain ⟨bx, hbx⟩ : ∃ bx, rowT5 H [Value.int .i64 ph, .int .i64 dn, .slice am mv.length cm, .slice ac0 lc kc, .slice ag0 lg kg] = bx := ⟨_, rfl⟩
  have HPK := Lib.hid (fun (w' : World) (L : List Rw) (h : Own w w' L) (hm : bx ∈ L) => t5_five (H := H) h (hbx ▸ hm))
  have HX := Lib.hid (show Own w w1 [bx] by rw [← hbx]; exact HX.out)
  clear hbx hH
  have Hst := Lib.hid (show MsRel w bx mv (.slice none 0 0) (.int .i64 0) w1 from ⟨0, [], [bx], rfl, Nat.zero_le _, HX.out.nil _ _, List.mem_cons_self .., (fun p hp => nomatch hp), rfl, rfl⟩)
  go_loopw [3, 9] (fun v i wr => MsRel w bx mv v i wr) (fun _ i _ => mv.length - (intOf i).toNat)
  case atStart => exact Hst.out
  case round =>
    obtain ⟨k, PS, L1, rfl, hk, hO, hbL, hps, hall, hlen⟩ := hrel
    clear Hst HX
    have hcell := HPK.out _ _ hO (List.mem_cons_of_mem _ hbL)
    by_cases hlt : k < mv.length
    · obtain ⟨g, o, rfl, hr⟩ := HD1.out.later hO.below k (by rw [List.length_map]; exact hlt)
      rw [List.getElem_map] at hr
      have r0 := hr 0 _ rfl
      have r1 := hr 1 _ rfl
      rw [Nat.add_zero] at r0
      obtain ⟨fa, fc, hv, _, _⟩ := Own.sized (h := (show Own w wr (⟨49, 1, u3, PS.length, PS.map (·.1)⟩ :: L1) from hO))
      have hz := HZ.out _ (List.getElem_mem hlt)
      have Hstep := Lib.hid (fun v9 va vb w9 L2 h ha hb hL => MsRel.step (w := w) (w9 := w9) (bx := bx) (v9 := v9) (va := va) (vb := vb) (L2 := L2) hlt h ha hb hL hbL hps hz hall hlen)
      have hpl : PS.length ≤ 2000000 := by omega
      have Hpl := Lib.hid hpl
      clear hr hps hall hlen hpl hcell
      generalize mv[k] = x at *
      obtain ⟨κ, p⟩ := x
      dsimp only at *
      have lp : p.size < 4294967296 := by omega
      have HO := Lib.hid (hO.box2 (.int .i64 κ) (.string p) 36)
      subst hv
      clear hO hz
      go_wp2_with fail
      obtain ⟨H2, hH2⟩ : ∃ H2, wr.heap.size = H2 := ⟨_, rfl⟩
      rw [hH2] at HO ⊢
      clear hH2
      have HO := Lib.hid (show Own w (wr.alloc (.cells #[.int .i64 κ, .string p] 36)) (boxM H2 κ p :: rowPs (.slice fa PS.length fc) PS :: L1) from HO.out)
      generalize wr.alloc (.cells #[.int .i64 κ, .string p] 36) = w3 at *
      have s0 := boxM_cells HO.out (List.mem_cons_self ..)
      obtain ⟨q0, q1⟩ := id s0
      go_region_held3 (fun w' : World => w'.cell? ⟨H2, 0, none⟩ = some (.int .i64 κ) ∧ w'.cell? ⟨H2, 1, none⟩ = some (.string p)) (first | exact s0 | exact sa | exact sb2 | exact sy | go_keep) (first
        | (go_at_call 20; refine (num_all κ _).mono ?_; rintro e wa ⟨va, rfl, hOa⟩; obtain ⟨aa, na, ca, rfl⟩ := hOa.formA; have HOa := Lib.hid (show Own w wa (rowU (.slice aa na ca) (le4m κ) :: boxM H2 κ p :: rowPs (.slice fa PS.length fc) PS :: L1) from (by first | exact HO.out.drew.join hOa | exact HO.out.join hOa)); have sa := boxM_cells HOa.out (by simp : boxM H2 κ p ∈ _); obtain ⟨qa0, qa1⟩ := id sa; clear hOa)
        | (go_at_call 21; refine (text_any p _ lp).mono ?_; rintro e wb ⟨vb, rfl, hOb⟩; obtain ⟨ab, nb, cb, rfl⟩ := hOb.formA; have HOb := Lib.hid (show Own w wb (rowU (.slice ab nb cb) (textB p) :: rowU (.slice aa na ca) (le4m κ) :: boxM H2 κ p :: rowPs (.slice fa PS.length fc) PS :: L1) from (by first | exact HOa.out.drew.join hOb | exact HOa.out.join hOb)); have sb2 := boxM_cells HOb.out (by simp : boxM H2 κ p ∈ _); obtain ⟨qb0, qb1⟩ := id sb2; have HP4 := Lib.hid (show Own w wb (⟨49, 1, .slice fa PS.length fc, PS.length, PS.map (·.1)⟩ :: ([rowU (.slice ab nb cb) (textB p), rowU (.slice aa na ca) (le4m κ), boxM H2 κ p] ++ L1)) from HOb.out.perm (List.perm_middle (l₁ := [rowU (.slice ab nb cb) (textB p), rowU (.slice aa na ca) (le4m κ), boxM H2 κ p]))); clear hOb)
        | (refine step_append_src (by rfl) (.tmp 13) (.tmp 20) 48 (by rfl) (.slice fa PS.length fc) PS.length (PS.map (·.1)) _ 2 [.slice aa na ca, .slice ab nb cb] (by rfl) (by rfl) (by first | exact HP4.out.alloc _ | exact HP4.out.drew.alloc _ | exact (HP4.out.alloc _).drew) inf (.slice none 0 0) 24 Tryd.underlying48 Hi0.out Hi1.out Hi2.out Hi3.out rfl (by decide) (lit_src2 _ _ _ _ rfl rfl) rfl (by have := Hpl.out; unfold maxLen; omega) (by have := Hpl.out; omega) ?_; intro v7 w7 hO7; have HR7 := Lib.hid (Hstep.out _ _ _ _ _ hO7 (by simp) (by simp) (fun x hx => by simp [hx])); have sy := boxM_cells hO7 (by simp : boxM H2 κ p ∈ _); clear hO7))
      all_goals clear HP4 HOb HOa HO Hstep
      all_goals go_wp2_with fail
      all_goals go_roundw
      case rel => exact HR7.out _ (by go_num)
      case measure => simp [intOf]; omega
    · obtain ⟨a2, c2, rfl, hparts⟩ := LsRel.parts (f := packM) (xs := mv) hO hps
      have hke : k = mv.length := by omega
      rw [hke, List.take_length] at hall
      have hli := fun w9 (hb : Below wr.heap.size wr w9) => list_any a2 c2 PS w9 (hparts.later hb) (by unfold maxLen; omega) (by rw [hall]; have := Hll.out; omega)
      simp only [hall] at hli
      have C1 := Lib.hid hli
      have HX := Lib.hid hO
      have HbL := Lib.hid hbL
      have hkn : ¬ (k : Int) < (mv.length : Int) := by omega
      have HB1s := Lib.hid (sizedL_byts _ HB1.out (by have := Hll.out; omega))
      have Hlen := Lib.hid (show (le4m ph ++ (le4m dn ++ (sizedL (mv.map packM).flatten ++ (sizedL z2 ++ sizedL z3)))).length ≤ 1000000000 by
        simp only [List.length_append, le4m_length, sizedL_length]
        have := Hll.out
        omega)
      have N1 := Lib.hid (le4m_byts ph)
      have N2 := Lib.hid (le4m_byts dn)
      have B7 := Lib.hid (fun w9 (h : Own w w9 []) => True.intro)
      have K1 := Lib.hid (fun w1 => num_all ph w1)
      have K2 := Lib.hid (fun w1 => num_all dn w1)
      generalize (mv.map packM).flatten = z1 at *
      have s0 := hcell
      obtain ⟨q0, q1, q2, q3, q4⟩ := id s0
      generalize le4m ph = y1 at *
      generalize le4m dn = y2 at *
      clear hO hps hall hparts hlen hke hli B7 hbL hcell HZ HD1
      obtain ⟨X0, hX0⟩ : ∃ X0, rowPs (.slice a2 PS.length c2) PS :: L1 = X0 := ⟨_, rfl⟩
      have HX := Lib.hid (show Own w wr X0 from hX0 ▸ HX.out)
      have HbX := Lib.hid (show bx ∈ X0 by rw [← hX0]; exact List.mem_cons_of_mem _ HbL.out)
      clear hX0 HbL
      go_wp2_with fail
      go_region_held3 (fun w' : World => w'.cell? ⟨H, 0, none⟩ = some (.int .i64 ph) ∧ w'.cell? ⟨H, 1, none⟩ = some (.int .i64 dn) ∧ w'.cell? ⟨H, 2, none⟩ = some (.slice am mv.length cm) ∧ w'.cell? ⟨H, 3, none⟩ = some (.slice ac0 lc kc) ∧ w'.cell? ⟨H, 4, none⟩ = some (.slice ag0 lg kg)) (first | exact se | exact sh | exact sf | exact sd | exact sc | exact sb1 | exact sa | exact s0 | go_keep) (first
        | (go_at_call 22; (first | refine hk1.mono ?_ | refine hk2.mono ?_); rintro e w9 ⟨v9, rfl, hO9⟩; obtain ⟨a9, n9, c9, rfl⟩ := hO9.formA; have HO9 := Lib.hid hO9; have se := HPK.out _ _ hO9 (by simp [HbX.out]); clear hO9)
        | (go_at_call 24; have _gate := HOd.out; clear _gate; refine (C3.out _ (by first | exact HOd.out.below | exact HOd.out.drew.below)).mono ?_; rintro e wf ⟨vf, rfl, hOf⟩; obtain ⟨af, nf, cf, rfl⟩ := hOf.formA; have HOf := Lib.hid (show Own w wf (rowU (.slice af nf cf) (sizedL z3) :: rowU (.slice ad nd cd) (sizedL z2) :: rowU (.slice ac nc cc) (sizedL z1) :: rowU (.slice ab nb cb) y2 :: rowU (.slice aa na ca) y1 :: X0) from (by first | exact HOd.out.drew.join hOf | exact HOd.out.join hOf)); have sf := HPK.out _ _ HOf.out (by simp [HbX.out]); obtain ⟨qf0, qf1, qf2, qf3, qf4⟩ := id sf; clear hOf; obtain ⟨hk1, hk2⟩ := packs_any (PS := [(.slice aa na ca, y1), (.slice ab nb cb, y2), (.slice ac nc cc, sizedL z1), (.slice ad nd cd, sizedL z2), (.slice af nf cf, sizedL z3)]) HOf.out (fun p hp => by simp only [List.mem_cons, List.not_mem_nil, or_false] at hp; rcases hp with rfl | rfl | rfl | rfl | rfl; exact ⟨by simp, N1.out⟩; exact ⟨by simp, N2.out⟩; exact ⟨by simp, HB1s.out⟩; exact ⟨by simp, HB2.out⟩; exact ⟨by simp, HB3.out⟩) (by show 5 ≤ 1000; decide) (by simpa [allOf] using Hlen.out); have hal := HOf.out.alloc (.cells #[.slice aa na ca, .slice ab nb cb, .slice ac nc cc, .slice ad nd cd, .slice af nf cf] 49); have sh := HPK.out _ _ hal (by simp [HbX.out]); clear hal)
        | (go_at_call 24; have _gate := HOc.out; clear _gate; refine (C2.out _ (by first | exact HOc.out.below | exact HOc.out.drew.below)).mono ?_; rintro e wd ⟨vd, rfl, hOd⟩; obtain ⟨ad, nd, cd, rfl⟩ := hOd.formA; have HOd := Lib.hid (show Own w wd (rowU (.slice ad nd cd) (sizedL z2) :: rowU (.slice ac nc cc) (sizedL z1) :: rowU (.slice ab nb cb) y2 :: rowU (.slice aa na ca) y1 :: X0) from (by first | exact HOc.out.drew.join hOd | exact HOc.out.join hOd)); have sd := HPK.out _ _ HOd.out (by simp [HbX.out]); obtain ⟨qd0, qd1, qd2, qd3, qd4⟩ := id sd; clear hOd)
        | (go_at_call 23; have _gate := HOb.out; clear _gate; refine (C1.out _ (by first | exact hbb | exact hbb.drew)).mono ?_; rintro e wc ⟨vc, rfl, hOc⟩; obtain ⟨ac, nc, cc, rfl⟩ := hOc.formA; have HOc := Lib.hid (show Own w wc (rowU (.slice ac nc cc) (sizedL z1) :: rowU (.slice ab nb cb) y2 :: rowU (.slice aa na ca) y1 :: X0) from (by first | exact HOb.out.drew.join hOc | exact HOb.out.join hOc)); have sc := HPK.out _ _ HOc.out (by simp [HbX.out]); obtain ⟨qc0, qc1, qc2, qc3, qc4⟩ := id sc; clear hOc)
        | (go_at_call 20; have _gate := HOa.out; clear _gate; refine (K2.out _).mono ?_; rintro e wb ⟨vb, rfl, hOb⟩; have hbb := (by first | exact hba.trans (hOb.below.mono hba.size) | exact hba.drew.trans (hOb.below.mono hba.size) : Below wr.heap.size wr wb); obtain ⟨ab, nb, cb, rfl⟩ := hOb.formA; have HOb := Lib.hid (show Own w wb (rowU (.slice ab nb cb) y2 :: rowU (.slice aa na ca) y1 :: X0) from (by first | exact HOa.out.drew.join hOb | exact HOa.out.join hOb)); have sb1 := HPK.out _ _ HOb.out (by simp [HbX.out]); obtain ⟨qb0, qb1, qb2, qb3, qb4⟩ := id sb1; clear hOb)
        | (go_at_call 20; refine (K1.out _).mono ?_; rintro e wa ⟨va, rfl, hOa⟩; have hba := (by first | exact hOa.below | exact ((Below.refl wr.heap.size wr).drew).trans hOa.below : Below wr.heap.size wr wa); obtain ⟨aa, na, ca, rfl⟩ := hOa.formA; have HOa := Lib.hid (show Own w wa (rowU (.slice aa na ca) y1 :: X0) from (by first | exact HX.out.drew.join hOa | exact HX.out.join hOa)); have sa := HPK.out _ _ HOa.out (by simp [HbX.out]); obtain ⟨qa0, qa1, qa2, qa3, qa4⟩ := id sa; clear hOa))
      go_wp2_with fail
      go_ret
      refine ⟨_, rfl, ?_⟩
      have h9 := HO9.out.only (List.mem_cons_self ..)
      have e9 : allOf [(Value.slice aa na ca, y1), (.slice ab nb cb, y2), (.slice ac nc cc, sizedL z1), (.slice ad nd cd, sizedL z2), (.slice af nf cf, sizedL z3)] = y1 ++ (y2 ++ (sizedL z1 ++ (sizedL z2 ++ sizedL z3))) := by simp [allOf]
      rw [e9] at h9
      rw [HG.out]
      exact h9
end Go.Proofs.YtjhaihckbmkiaaaDoor
