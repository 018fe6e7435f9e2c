/- TxnReads: the walk. -/
import Derived.Test.YtjhaihckbmkiaaaDoorTx8
namespace Go.Proofs.YtjhaihckbmkiaaaDoor
open Go.RowKit
set_option linter.unusedVariables false
set_option linter.unusedSimpArgs false
set_option maxRecDepth 100000

set_option maxHeartbeats 16000000 in
theorem treads_law (v : Value) (zs : List Int) (w : World) (h : By w v zs) (hm : Mx w) : Calls Tryd.prog 3 #[v] w fun e w' => e = .returned (.bool true) ∧ Below w.heap.size w w' := by
  have hal := talive_any w hm
  have HB := Lib.hid h
  have Hm := Lib.hid hm
  have hz := h.2.1
  have Hz := Lib.hid hz
  obtain ⟨va, vc, hv, hvc, _⟩ := h.2.2
  subst hv
  clear h hm hz
  by_cases hl : zs.length ≤ 400
  · have hl2 : ¬ (400 : Int) < (zs.length : Int) := by omega
    go_enter Tryd.func3, Tryd.ntmps3
    go_wp2_with fail
    refine hal.mono ?_
    rintro e w2 ⟨rfl, hb2⟩
    have hun := txunpack_any _ zs w2 (HB.out.later hb2) (by omega) (Hm.out.later hb2)
    have HB2 := Lib.hid hb2
    clear hal hb2
    go_wp2_with fail
    refine hun.mono ?_
    rintro e w3 ⟨P, L, hO, hI, hres⟩
    have Hfit := Lib.hid (unT_fits zs (by omega) (unT zs) rfl)
    have hbw := HB2.out.trans (hO.below.mono HB2.out.size)
    have HBW := Lib.hid hbw
    rcases hres with ⟨hok, hpk, rfl⟩ | ⟨hno, rfl⟩
    · have Hok := Lib.hid hok
      have Hpk := Lib.hid hpk
      have HX := Lib.hid (hO.box5 (.int .i64 (unT zs).phase) (.int .i64 (unT zs).done) (.slice P.am (unT zs).moves.length P.cm) (.slice P.ac (unT zs).come.length P.cc) (.slice P.ag (unT zs).gone.length P.cg) 27)
      have HI := Lib.hid hI
      obtain ⟨am, cm, ac, cc, ag, cg⟩ := P
      dsimp only at *
      generalize unT zs = D at *
      have hbA : Below w3.heap.size w3 (w3.alloc (.cells #[.int .i64 D.phase, .int .i64 D.done, .slice am D.moves.length cm, .slice ac D.come.length cc, .slice ag D.gone.length cg] 27)) := (Below.refl _ w3).alloc (Nat.le_refl _) _
      have HBA := Lib.hid (hbw.trans (hbA.mono hbw.size))
      clear hun hO hok hpk hI hbw hbA
      go_upto_region 8 with fail
      obtain ⟨H3, hH3⟩ : ∃ H3, w3.heap.size = H3 := ⟨_, rfl⟩
      rw [hH3] at HX ⊢
      generalize w3.alloc (.cells #[.int .i64 D.phase, .int .i64 D.done, .slice am D.moves.length cm, .slice ac D.come.length cc, .slice ag D.gone.length cg] 27) = W3 at *
      clear hH3
      have HX := Lib.hid (show Own w2 W3 (rowT5 H3 [.int .i64 D.phase, .int .i64 D.done, .slice am D.moves.length cm, .slice ac D.come.length cc, .slice ag D.gone.length cg] :: L) from HX.out)
      have HT := Lib.hid (fun w9 L9 (h : Own w2 w9 L9) (hs : ∀ q ∈ rowT5 H3 [.int .i64 D.phase, .int .i64 D.done, .slice am D.moves.length cm, .slice ac D.come.length cc, .slice ag D.gone.length cg] :: L, q ∈ L9) => (HI.out.mono fun q hq => hs q (List.mem_cons_of_mem _ hq)).at h)
      have HC := Lib.hid (fun w9 (hb : Below w.heap.size w w9) => (HB.out.later hb).toStr)
      have hat := (HI.out.mono fun q hq => List.mem_cons_of_mem (rowT5 H3 [.int .i64 D.phase, .int .i64 D.done, .slice am D.moves.length cm, .slice ac D.come.length cc, .slice ag D.gone.length cg]) hq).at HX.out
      have HAt := Lib.hid hat
      have hrg := lright_yes D ⟨am, cm, ac, cc, ag, cg⟩ W3 hat Hfit.out.1 (rightD_of Hok.out)
      have hrgd := lright_yes D ⟨am, cm, ac, cc, ag, cg⟩ W3.drew (hat.later (Below.refl _ _).drew) Hfit.out.1 (rightD_of Hok.out)
      have HP := Lib.hid (fun w9 (h : Below W3.heap.size W3 w9) => txpack_any D ⟨am, cm, ac, cc, ag, cg⟩ w9 (HAt.out.later h) Hfit.out.1 Hfit.out.2)
      have HPz : ∀ w9 (h : Below W3.heap.size W3 w9), Calls Tryd.prog 9 #[.agg #[.int .i64 D.phase, .int .i64 D.done, .slice am D.moves.length cm, .slice ac D.come.length cc, .slice ag D.gone.length cg]] w9 fun e w' => ∃ v, e = .returned v ∧ Own w9 w' [rowU v zs] := by
        intro w9 h
        have := HP.out w9 h
        rw [Hpk.out] at this
        exact this
      have HPz := Lib.hid HPz
      have q := t5_cells HX.out (H := H3) (List.mem_cons_self ..)
      obtain ⟨s0, _, k0⟩ := q
      have cv0 := HC.out W3 HBA.out
      have cv0d := HC.out W3.drew HBA.out.drew
      obtain ⟨c0, c1, c2, c3, c4⟩ := id s0
      dsimp only at hrg hrgd
      clear hat HP HT
      have S0 := And.intro s0 cv0
      go_region_with (first
        | (go_at_call 8; (first | refine hrg.mono ?_ | refine hrgd.mono ?_); rintro e w5 ⟨rfl, hb5⟩; have HX5 := Lib.hid (HX.out.later (by first | exact hb5 | exact (Below.refl W3.heap.size W3).drew.trans hb5)); have HB5 := Lib.hid (show Below W3.heap.size W3 w5 from (by first | exact hb5 | exact (Below.refl W3.heap.size W3).drew.trans hb5)); have cv5 := HC.out w5 (HBA.out.trans (HB5.out.mono HBA.out.size)); have cv5d := HC.out w5.drew (HBA.out.trans (HB5.out.mono HBA.out.size)).drew; obtain ⟨⟨d0, d1, d2, d3, d4⟩, _⟩ := t5_cells HX5.out (H := H3) (List.mem_cons_self ..); clear hb5)
        | (go_at_call 9; (first | refine (HPz.out _ HB5.out).mono ?_ | refine (HPz.out _ HB5.out.drew).mono ?_); rintro e w6 ⟨v6, rfl, hO6⟩; have hb6 := hO6.by Hz.out; have cv6 := hb6.toStr; have cv6d := hb6.drew.toStr; have HB6 := Lib.hid (show Below W3.heap.size W3 w6 from (by first | exact HB5.out.trans (hO6.below.mono HB5.out.size) | exact HB5.out.drew.trans (hO6.below.mono HB5.out.size))); have cv7 := HC.out w6 (HBA.out.trans (HB6.out.mono HBA.out.size)); have cv7d := HC.out w6.drew (HBA.out.trans (HB6.out.mono HBA.out.size)).drew; obtain ⟨a6, c6, rfl, _, _⟩ := Own.sized (h := (show Own _ w6 (⟨5, 1, v6, zs.length, bs zs⟩ :: []) from hO6)); clear hO6 hb6))
      all_goals go_wp2_with fail
      all_goals go_ret
      all_goals exact ⟨rfl, HBA.out.trans (HB6.out.mono HBA.out.size)⟩
    · clear hun hno hI hbw Hfit
      have hsz := same_zero (w3.alloc (.cells #[.int .i64 0, .int .i64 0, .slice none 0 0, .slice none 0 0, .slice none 0 0] 27))
      have HBA := Lib.hid (HBW.out.trans (((Below.refl _ w3).alloc (Nat.le_refl _) (.cells #[.int .i64 0, .int .i64 0, .slice none 0 0, .slice none 0 0, .slice none 0 0] 27)).mono HBW.out.size))
      clear hO
      go_wp2_with fail
      refine hsz.mono ?_
      rintro e w5 ⟨rfl, hb5⟩
      clear hsz
      go_wp2_with fail
      go_ret
      exact ⟨rfl, HBA.out.trans (hb5.mono HBA.out.size)⟩
  · have hl2 : (400 : Int) < (zs.length : Int) := by omega
    go_enter Tryd.func3, Tryd.ntmps3
    go_wp2_with fail
    refine hal.mono ?_
    rintro e w2 ⟨rfl, hb2⟩
    clear hal
    go_wp2_with fail
    go_ret
    exact ⟨rfl, hb2⟩
end Go.Proofs.YtjhaihckbmkiaaaDoor
