/- Unpack: the walk. -/
import Derived.Test.YtjhaihckbmkiaaaDoorTx5
import Derived.Deep.DrawnRows
import Derived.BigQuiet
import Derived.StillTailTactics
import Derived.Deep.RegionWith
import Derived.Deep.DeepCutAuto
namespace Go.Proofs.YtjhaihckbmkiaaaDoor
open Go.RowKit
set_option linter.unusedVariables false
set_option linter.unusedSimpArgs false
set_option maxRecDepth 100000

attribute [local go_sem ↓] wp_appM Go.wp_at_zero Go.wp_at_succ
/-- An upgrade whose lists are owned rows. -/
structure TxIn (L : List Rw) (D : TxD) (P : TxP) : Prop where
  moves : rowMv (.slice P.am D.moves.length P.cm) D.moves ∈ L
  come : rowE 9 1 (fun s => [Value.string s]) (.slice P.ac D.come.length P.cc) D.come ∈ L
  gone : rowE 9 1 (fun s => [Value.string s]) (.slice P.ag D.gone.length P.cg) D.gone ∈ L
theorem TxIn.mono {L L' : List Rw} {D : TxD} {P : TxP} (h : TxIn L D P) (hs : ∀ r ∈ L, r ∈ L') : TxIn L' D P := ⟨hs _ h.moves, hs _ h.come, hs _ h.gone⟩
theorem TxIn.at {W0 : Base} {w : World} {L : List Rw} {D : TxD} {P : TxP} (k : TxIn L D P) (h : Own W0 w L) : TxAt w D P := by
  obtain ⟨ph, dn, mv, co, gn⟩ := D
  obtain ⟨am, cm, ac, cc, ag, cg⟩ := P
  obtain ⟨x1, x2, e1, _, g1⟩ := rowE_slc h k.moves (fun x => rfl)
  obtain ⟨x3, x4, e2, _, g2⟩ := rowE_slc h k.come (fun x => rfl)
  obtain ⟨x5, x6, e3, _, g3⟩ := rowE_slc h k.gone (fun x => rfl)
  injection e1 with e1 _ _
  injection e2 with e2 _ _
  injection e3 with e3 _ _
  subst e1 e2 e3
  exact ⟨g1, g2, g3⟩
abbrev zT5 : List Value := [.int .i64 0, .int .i64 0, .slice none 0 0, .slice none 0 0, .slice none 0 0]
theorem Rd.box5 {W0 : Base} {w : World} {L : List Rw} {r : Nat} {zs : List Int} {bad : Bool} (h : Rd W0 w L r zs bad) (a b c d e : Value) : Rd W0 (w.alloc (.cells #[a, b, c, d, e] 27)) (rowT5 w.heap.size [a, b, c, d, e] :: L) r zs bad := by
  obtain ⟨v, h1, h2⟩ := h
  exact ⟨v, (h1.box5 a b c d e 27).swap, h2.cons _⟩
theorem info_t5 : (Tryd.prog.info? 27).map (·.size) = some 5 := by kernel_rfl
theorem set5 (w : World) (H : Nat) (a b c d e : Value) : w.setCells H 0 [a, b, c, d, e] = (((((w.setCell ⟨H, 0, none⟩ a).setCell ⟨H, 1, none⟩ b).setCell ⟨H, 2, none⟩ c).setCell ⟨H, 3, none⟩ d).setCell ⟨H, 4, none⟩ e) := rfl
/-- What Unpack gives. -/
def UnPost (w : World) (zs : List Int) (D : TxD) (e : Ending) (w' : World) : Prop :=
  ∃ (P : TxP) (L : List Rw), Own w w' L ∧ TxIn L D P ∧
    ((txOk D = true ∧ packT D = zs ∧ e = .returned (.tuple #[.agg #[.int .i64 D.phase, .int .i64 D.done, .slice P.am D.moves.length P.cm, .slice P.ac D.come.length P.cc, .slice P.ag D.gone.length P.cg], .int .i64 0])) ∨
     (¬ (txOk D = true ∧ packT D = zs) ∧ e = .returned (.tuple #[.agg #[.int .i64 0, .int .i64 0, .slice none 0 0, .slice none 0 0, .slice none 0 0], .int .i64 4])))
set_option maxHeartbeats 16000000 in
theorem txunpack_any (v : Value) (zs : List Int) (w : World) (h : By w v zs) (hz : zs.length ≤ 1000) (hm : Mx w) :
    Calls Tryd.prog 6 #[v] w (UnPost w zs (unT zs)) := by
  obtain ⟨l1, l2, l3, l4⟩ := tu_len zs
  have hO0 := (Own.start w).box5 (.int .i64 0) (.int .i64 0) (.slice none 0 0) (.slice none 0 0) (.slice none 0 0) 27
  have hrd := rread_rd v zs _ (h.later hO0.below) (by omega) w _ hO0
  have hir := info_t5
  have HBy := Lib.hid h
  have Hm := Lib.hid hm
  obtain ⟨va, vc, hv, _, _⟩ := h.2.2
  subst hv
  clear h hO0 hm
  go_enter Tryd.func6, Tryd.ntmps6
  go_wp2_with fail
  refine hrd.mono ?_
  rintro e w2 ⟨r, L1, rfl, h2⟩
  have h2 : Rd w w2 (L1 ++ [rowT5 w.heap.size zT5]) r zs false := h2
  obtain ⟨B, hB⟩ : ∃ B, [rowT5 w.heap.size zT5] = B := ⟨_, rfl⟩
  rw [hB] at h2
  have HBx := Lib.hid hB
  have hc : Calls Tryd.prog 12 #[.pointer (some ⟨r, 0, none⟩), .int .i64 4] w2 fun e w' => e = .returned (.int .i64 (numP 4 zs false).1) ∧ Rd w w' (L1 ++ B) r (tu1 zs).1 (tu1 zs).2 := h2.num 4
  obtain ⟨ph, hph⟩ : ∃ ph, (numP 4 zs false).1 = ph := ⟨_, rfl⟩
  rw [hph] at hc
  have Hph := Lib.hid hph
  clear h2 hrd hB hph
  go_wp2_with fail
  refine hc.mono ?_
  rintro e w3 ⟨rfl, h3⟩
  have hc : Calls Tryd.prog 12 #[.pointer (some ⟨r, 0, none⟩), .int .i64 40] w3 fun e w' => e = .returned (.int .i64 (numP 40 (tu1 zs).1 (tu1 zs).2).1) ∧ Rd w w' (L1 ++ B) r (tu2 zs).1 (tu2 zs).2 := h3.num 40
  obtain ⟨dn, hdn⟩ : ∃ dn, (numP 40 (tu1 zs).1 (tu1 zs).2).1 = dn := ⟨_, rfl⟩
  rw [hdn] at hc
  have Hdn := Lib.hid hdn
  clear h3 hdn
  go_wp2_with fail
  refine hc.mono ?_
  rintro e w4 ⟨rfl, h4⟩
  have h4b := h4.box5 (.int .i64 ph) (.int .i64 dn) (.slice none 0 0) (.slice none 0 0) (.slice none 0 0)
  obtain ⟨H2, hH2⟩ : ∃ H2, w4.heap.size = H2 := ⟨_, rfl⟩
  rw [hH2] at h4b
  have hli := alist_any h4b
  have HH2 := Lib.hid hH2
  clear hc h4 h4b hH2
  go_wp2_with fail
  rw [HH2.out]
  refine hli.mono ?_
  rintro e w5 ⟨r5, v5, rfl, h5, hp5⟩
  have hT : (36 : TypeId) ≠ 5 := by decide
  have hT5 : (27 : TypeId) ≠ 5 := by decide
  have Hp5 := Lib.hid (show Pc (L1 ++ B) v5 (tu3 zs).1 from hp5.keep fun q hq he => by
    rcases List.mem_cons.1 hq with rfl | hq
    · exact absurd he hT5
    · exact hq)
  have Hst := Lib.hid (show MvRel w (rowR r v5 (tu3 zs).2 :: (L1 ++ B)) r5 H2 (.int .i64 ph) (.int .i64 dn) (.slice none 0 0) (.slice none 0 0) (inL (tu2 zs).1).1 (inL (tu2 zs).1).2 w5 from by
    have h6 : Rd w w5 (rowT5 H2 [.int .i64 ph, .int .i64 dn, .slice none 0 0, .slice none 0 0, .slice none 0 0] :: rowR r v5 (tu3 zs).2 :: (L1 ++ B)) r5 (inL (tu2 zs).1).1 (inL (tu2 zs).1).2 := h5.perm (List.Perm.swap _ _ _)
    obtain ⟨v6, h7, h8⟩ := h6
    exact ⟨_, [], _, _, _, (Rd.rowIn (h7.nil 36 2) h8).perm (List.Perm.swap _ _ _), rfl, Nat.le_refl _, by simp⟩)
  have Hz0 := Lib.hid (show (inL (tu2 zs).1).1.length ≤ 1000 by have := inL_len (tu2 zs).1; omega)
  have HIn := Lib.hid (show runT mvT (inL (tu2 zs).1).1.length (inL (tu2 zs).1).1 (inL (tu2 zs).1).2 = (unT zs).moves from rfl)
  clear hli h5 hp5 hT hT5
  generalize (inL (tu2 zs).1).1 = zs0 at *
  generalize (inL (tu2 zs).1).2 = bad0 at *
  go_wp2_with fail
  go_loopw [] (fun wr => MvRel w (rowR r v5 (tu3 zs).2 :: (L1 ++ B)) r5 H2 (.int .i64 ph) (.int .i64 dn) (.slice none 0 0) (.slice none 0 0) zs0 bad0 wr) (fun wr => leftA wr r5)
  case atStart => exact Hst.out
  case round =>
    obtain ⟨v, ns, zs1, bad1, m, hR, hrun, hmm, hns⟩ := hrel
    clear Hst
    have hmore := hR.more
    rcases Nat.eq_zero_or_pos zs1.length with h0 | h0
    · rw [decide_eq_false (by omega)] at hmore
      have hz1 : zs1 = [] := List.eq_nil_of_length_eq_zero h0
      rw [runT_nil mvT m zs1 bad1 h0, List.append_nil, HIn.out] at hrun
      subst hrun
      obtain ⟨am, cm, rfl, _, _⟩ := rowE_slc hR.own (List.mem_cons_of_mem _ (List.mem_cons_self ..)) (fun x => rfl)
      have hb6 : Rd w wr ([rowT5 H2 [.int .i64 ph, .int .i64 dn, .slice am (unT zs).moves.length cm, .slice none 0 0, .slice none 0 0], rowMv (.slice am (unT zs).moves.length cm) (unT zs).moves] ++ (L1 ++ B)) r (tu3 zs).1 (tu3 zs).2 := Rd.back (X := [_, _]) hR Hp5.out
      have hli := alist_any (s := tu3 zs) hb6
      clear hR hb6 hz1 h0 hmm hns
      go_wp2_with fail
      refine hmore.mono ?_
      rintro e w6 ⟨rfl, rfl⟩
      go_wp2_with fail
      refine hli.mono ?_
      rintro e w7 ⟨r7, v7, rfl, h7, hp7⟩
      have htk := names_take h7 (Nat.le_trans (inL_len _) (by omega))
      have Hp7 := Lib.hid hp7
      clear hli h7 hp7 hmore
      go_wp2_with fail
      refine htk.mono ?_
      rintro e w8 ⟨vc1, b8, rfl, h8⟩
      have h8' : Rd w w8 ([rowE 9 1 (fun s => [Value.string s]) vc1 (unT zs).come] ++ ([rowT5 H2 [.int .i64 ph, .int .i64 dn, .slice am (unT zs).moves.length cm, .slice none 0 0, .slice none 0 0], rowMv (.slice am (unT zs).moves.length cm) (unT zs).moves] ++ (L1 ++ B))) r (tu4 zs).1 (tu4 zs).2 := Rd.back (X := [_]) h8 Hp7.out
      obtain ⟨ac, cc, rfl, _, _⟩ := rowE_slc h8'.own (List.mem_cons_self ..) (fun x => rfl)
      have hli := alist_any (s := tu4 zs) h8'
      clear htk h8 h8' Hp7
      go_wp2_with fail
      refine hli.mono ?_
      rintro e w9 ⟨r9, v9, rfl, h9, hp9⟩
      have htk := names_take h9 (Nat.le_trans (inL_len _) (by omega))
      have Hp9 := Lib.hid hp9
      clear hli h9 hp9
      go_wp2_with fail
      refine htk.mono ?_
      rintro e w10 ⟨vg1, b10, rfl, h10⟩
      have h10' : Rd w w10 ([rowE 9 1 (fun s => [Value.string s]) vg1 (unT zs).gone] ++ ([rowE 9 1 (fun s => [Value.string s]) (.slice ac (unT zs).come.length cc) (unT zs).come] ++ ([rowT5 H2 [.int .i64 ph, .int .i64 dn, .slice am (unT zs).moves.length cm, .slice none 0 0, .slice none 0 0], rowMv (.slice am (unT zs).moves.length cm) (unT zs).moves] ++ (L1 ++ B)))) r _ _ := Rd.back (X := [_]) h10 Hp9.out
      obtain ⟨ag, cg, rfl, _, _⟩ := rowE_slc h10'.own (List.mem_cons_self ..) (fun x => rfl)
      have hO := h10'.own
      clear htk h10 h10' Hp9
      obtain rfl : (unT zs).phase = ph := Hph.out
      obtain rfl : (unT zs).done = dn := Hdn.out
      have hB := HBx.out
      subst hB
      have HDz := Lib.hid (unT_fits zs hz (unT zs) rfl)
      clear Hph Hdn HBx HIn
      generalize unT zs = D at *
      obtain ⟨⟨c0, c1, c2, c3, c4⟩, ⟨f0, f1, f2, f3, f4⟩, _⟩ := t5_cells hO (H := H2) (a := .int .i64 D.phase) (b := .int .i64 D.done) (c := .slice am D.moves.length cm) (d := .slice none 0 0) (e := .slice none 0 0) (by simp)
      have h11 := hO.perm (show List.Perm _ (rowT5 H2 [.int .i64 D.phase, .int .i64 D.done, .slice am D.moves.length cm, .slice none 0 0, .slice none 0 0] :: ([rowE 9 1 (fun s => [Value.string s]) (.slice ag D.gone.length cg) D.gone, rowE 9 1 (fun s => [Value.string s]) (.slice ac D.come.length cc) D.come] ++ (rowMv (.slice am D.moves.length cm) D.moves :: (L1 ++ [rowT5 w.heap.size zT5])))) from List.perm_middle (l₁ := [rowE 9 1 (fun s => [Value.string s]) (.slice ag D.gone.length cg) D.gone, rowE 9 1 (fun s => [Value.string s]) (.slice ac D.come.length cc) D.come]))
      have h12 := Own.set (h := Own.set (h := h11) 3 (.slice ac D.come.length cc)) 4 (.slice ag D.gone.length cg)
      have HO := Lib.hid (show Own w _ (rowT5 H2 [.int .i64 D.phase, .int .i64 D.done, .slice am D.moves.length cm, .slice ac D.come.length cc, .slice ag D.gone.length cg] :: ([rowE 9 1 (fun s => [Value.string s]) (.slice ag D.gone.length cg) D.gone, rowE 9 1 (fun s => [Value.string s]) (.slice ac D.come.length cc) D.come] ++ (rowMv (.slice am D.moves.length cm) D.moves :: (L1 ++ [rowT5 w.heap.size zT5])))) from h12)
      clear hO h11 h12
      go_upto_region 7 with fail
      generalize (w10.setCell ⟨H2, 3, none⟩ (Value.slice ac D.come.length cc)).setCell ⟨H2, 4, none⟩ (Value.slice ag D.gone.length cg) = W at HO ⊢
      clear c0 c1 c2 c3 c4 f0 f1 f2 f3 f4
      obtain ⟨X, hX⟩ : ∃ X, ([rowE 9 1 (fun s => [Value.string s]) (.slice ag D.gone.length cg) D.gone, rowE 9 1 (fun s => [Value.string s]) (.slice ac D.come.length cc) D.come] ++ (rowMv (.slice am D.moves.length cm) D.moves :: L1)) = X := ⟨_, rfl⟩
      have HO := Lib.hid (show Own w W (rowT5 H2 [.int .i64 D.phase, .int .i64 D.done, .slice am D.moves.length cm, .slice ac D.come.length cc, .slice ag D.gone.length cg] :: (X ++ [rowT5 w.heap.size zT5])) by
        rw [← hX]
        simpa using HO.out)
      have HI := Lib.hid (show TxIn X D ⟨am, cm, ac, cc, ag, cg⟩ by
        rw [← hX]
        exact ⟨by simp, by simp, by simp⟩)
      clear hX
      have hat := (HI.out.mono (L' := rowT5 H2 [.int .i64 D.phase, .int .i64 D.done, .slice am D.moves.length cm, .slice ac D.come.length cc, .slice ag D.gone.length cg] :: (X ++ [rowT5 w.heap.size zT5])) (fun q hq => by simp [hq])).at HO.out
      obtain ⟨⟨c0, c1, c2, c3, c4⟩, _, _⟩ := t5_cells HO.out (H := H2) (a := .int .i64 D.phase) (b := .int .i64 D.done) (c := .slice am D.moves.length cm) (d := .slice ac D.come.length cc) (e := .slice ag D.gone.length cg) (List.mem_cons_self ..)
      have hri := txright_any D ⟨am, cm, ac, cc, ag, cg⟩ W hat HDz.out.1 (Hm.out.later HO.out.below)
      have HPk := Lib.hid (fun w9 (hb : Below W.heap.size W w9) => txpack_any D ⟨am, cm, ac, cc, ag, cg⟩ w9 (hat.later hb) HDz.out.1 HDz.out.2)
      have HPb := Lib.hid (packT_byts D HDz.out.1 HDz.out.2)
      clear hat
      generalize hok : txOk D = ok at hri
      have Hok := Lib.hid hok
      clear hok
      dsimp only at hri HPk
      have HE := Lib.hid (fun w9 v9 (k1 : By w9 v9 (packT D)) (k2 : By w9 (.slice va zs.length vc) zs) => aequal_any w9 v9 (.slice va zs.length vc) (packT D) zs k1 k2)
      go_wp2_with fail
      refine hri.mono ?_
      rintro e w11 ⟨rfl, hb11⟩
      have HO11 := Lib.hid (HO.out.later hb11)
      obtain ⟨⟨d0, d1, d2, d3, d4⟩, _, _⟩ := t5_cells HO11.out (H := H2) (a := .int .i64 D.phase) (b := .int .i64 D.done) (c := .slice am D.moves.length cm) (d := .slice ac D.come.length cc) (e := .slice ag D.gone.length cg) (List.mem_cons_self ..)
      have HB11 := Lib.hid hb11
      clear hri hb11 c0 c1 c2 c3 c4
      cases ok with
      | false =>
        obtain ⟨⟨q0, q1, q2, q3, q4⟩, ⟨g0, g1, g2, g3, g4⟩, _⟩ := t5_cells HO11.out (H := w.heap.size) (a := .int .i64 0) (b := .int .i64 0) (c := .slice none 0 0) (d := .slice none 0 0) (e := .slice none 0 0) (by simp)
        go_wp2_with fail
        rw [← set5]
        have h5 : Own w _ _ := t5_set (A := rowT5 H2 [.int .i64 D.phase, .int .i64 D.done, .slice am D.moves.length cm, .slice ac D.come.length cc, .slice ag D.gone.length cg] :: X) (B := []) HO11.out rfl [.int .i64 0, .int .i64 0, .slice none 0 0, .slice none 0 0, .slice none 0 0] rfl
        obtain ⟨_, _, k5⟩ := t5_cells h5 (List.mem_cons_self ..)
        refine bodyPost_ret (ret_cellT Tryd.results6 rfl rfl k5 Tryd.underlying27 rfl hir) rfl ?_
        exact ⟨⟨am, cm, ac, cc, ag, cg⟩, _, h5, HI.out.mono (fun q hq => by simp [hq]), .inr ⟨fun h => (by rw [Hok.out] at h; exact absurd h.1 (by decide)), rfl⟩⟩
      | true =>
        have hpk := HPk.out w11 HB11.out
        go_wp2_with fail
        refine hpk.mono ?_
        rintro e w12 ⟨v12, rfl, hO12⟩
        obtain ⟨a12, n12, c12, rfl⟩ := hO12.formA
        have hq := HE.out w12 _ (hO12.by HPb.out) (HBy.out.later (HO11.out.join hO12).below)
        have HO12 := Lib.hid (show Own w w12 (rowU (.slice a12 n12 c12) (packT D) :: rowT5 H2 [.int .i64 D.phase, .int .i64 D.done, .slice am D.moves.length cm, .slice ac D.come.length cc, .slice ag D.gone.length cg] :: (X ++ [rowT5 w.heap.size zT5])) from HO11.out.join hO12)
        generalize hqq : decide (packT D = zs) = same at hq
        have Hqq := Lib.hid hqq
        clear hpk hO12 d0 d1 d2 d3 d4 hqq
        go_wp2_with fail
        refine hq.mono ?_
        rintro e w13 ⟨rfl, rfl⟩
        clear hq
        obtain ⟨⟨q0, q1, q2, q3, q4⟩, ⟨g0, g1, g2, g3, g4⟩, _⟩ := t5_cells HO12.out (H := w.heap.size) (a := .int .i64 0) (b := .int .i64 0) (c := .slice none 0 0) (d := .slice none 0 0) (e := .slice none 0 0) (by simp)
        obtain ⟨⟨d0, d1, d2, d3, d4⟩, _, _⟩ := t5_cells HO12.out (H := H2) (a := .int .i64 D.phase) (b := .int .i64 D.done) (c := .slice am D.moves.length cm) (d := .slice ac D.come.length cc) (e := .slice ag D.gone.length cg) (by simp)
        cases same with
        | false =>
          go_wp2_with fail
          rw [← set5]
          have h5 : Own w _ _ := t5_set (A := rowU (.slice a12 n12 c12) (packT D) :: rowT5 H2 [.int .i64 D.phase, .int .i64 D.done, .slice am D.moves.length cm, .slice ac D.come.length cc, .slice ag D.gone.length cg] :: X) (B := []) HO12.out rfl [.int .i64 0, .int .i64 0, .slice none 0 0, .slice none 0 0, .slice none 0 0] rfl
          obtain ⟨_, _, k5⟩ := t5_cells h5 (List.mem_cons_self ..)
          refine bodyPost_ret (ret_cellT Tryd.results6 rfl rfl k5 Tryd.underlying27 rfl hir) rfl ?_
          exact ⟨⟨am, cm, ac, cc, ag, cg⟩, _, h5, HI.out.mono (fun q hq => by simp [hq]), .inr ⟨fun h => absurd h.2 (of_decide_eq_false Hqq.out), rfl⟩⟩
        | true =>
          go_wp2_with fail
          rw [← set5]
          have h5 : Own w _ _ := t5_set (A := rowU (.slice a12 n12 c12) (packT D) :: rowT5 H2 [.int .i64 D.phase, .int .i64 D.done, .slice am D.moves.length cm, .slice ac D.come.length cc, .slice ag D.gone.length cg] :: X) (B := []) HO12.out rfl [.int .i64 D.phase, .int .i64 D.done, .slice am D.moves.length cm, .slice ac D.come.length cc, .slice ag D.gone.length cg] rfl
          obtain ⟨_, _, k5⟩ := t5_cells h5 (List.mem_cons_self ..)
          refine bodyPost_ret (ret_cellT Tryd.results6 rfl rfl k5 Tryd.underlying27 rfl hir) rfl ?_
          exact ⟨⟨am, cm, ac, cc, ag, cg⟩, _, h5, HI.out.mono (fun q hq => by simp [hq]), .inl ⟨Hok.out, of_decide_eq_true Hqq.out, rfl⟩⟩
    · rw [decide_eq_true h0] at hmore
      obtain ⟨fa, fc, hv, _, _⟩ := Own.sized (h := (show Own w wr (⟨36, 2, v, ns.length, (ns.map MvD.cells).flatten⟩ :: (rowR r v5 (tu3 zs).2 :: (L1 ++ B))) from hR.own.tail))
      subst hv
      obtain ⟨⟨_, _, c2, _, _⟩, ⟨_, _, f2, _, _⟩, _⟩ := t5_cells hR.own (H := H2) (a := .int .i64 ph) (b := .int .i64 dn) (c := .slice fa ns.length fc) (d := .slice none 0 0) (e := .slice none 0 0) (List.mem_cons_self ..)
      have Hlen := Lib.hid (show ns.length ≤ 1000000 by have := Hz0.out; omega)
      have Hstep := Lib.hid (fun v6 x zs' bad' w7 h hx => MvRel.step (W0 := w) (X := rowR r v5 (tu3 zs).2 :: (L1 ++ B)) (H2 := H2) (a := .int .i64 ph) (b := .int .i64 dn) (c := .slice none 0 0) (d := .slice none 0 0) (v6 := v6) (x := x) (zs' := zs') (bad' := bad') (w7 := w7) (wr := wr) h hrun hmm hns h0 hx hR.left)
      have HR := Lib.hid hR
      clear hR hrun hmm hns h0
      have HM := Lib.hid (show mvT zs1 bad1 = (⟨(numP 2 zs1 bad1).1, strOfNums (bodP 40 (numP 2 zs1 bad1).2.1 (numP 2 zs1 bad1).2.2).1⟩, (bodP 40 (numP 2 zs1 bad1).2.1 (numP 2 zs1 bad1).2.2).2.1, (bodP 40 (numP 2 zs1 bad1).2.1 (numP 2 zs1 bad1).2.2).2.2) from rfl)
      have HN := Lib.hid (fun w9 (h : Rd w w9 (rowT5 H2 [.int .i64 ph, .int .i64 dn, .slice fa ns.length fc, .slice none 0 0, .slice none 0 0] :: rowMv (.slice fa ns.length fc) ns :: (rowR r v5 (tu3 zs).2 :: (L1 ++ B))) r5 zs1 bad1) => h.num 2)
      generalize numP 2 zs1 bad1 = A at *
      have HT := Lib.hid (fun w9 (h : Rd w w9 (rowT5 H2 [.int .i64 ph, .int .i64 dn, .slice fa ns.length fc, .slice none 0 0, .slice none 0 0] :: rowMv (.slice fa ns.length fc) ns :: (rowR r v5 (tu3 zs).2 :: (L1 ++ B))) r5 A.2.1 A.2.2) => h.text 40)
      generalize bodP 40 A.2.1 A.2.2 = C at *
      go_wp2_with fail
      refine hmore.mono ?_
      rintro e w6 ⟨rfl, rfl⟩
      go_upto_region 5 with fail
      go_region_with (first
        | (go_at_call 12; (first | refine (HN.out _ HR.out).mono ?_ | refine (HN.out _ (HR.out.later (Below.refl _ _).drew)).mono ?_); rintro e w7 ⟨rfl, h7⟩; have H7 := Lib.hid h7; obtain ⟨⟨_, _, c7, _, _⟩, _, _⟩ := t5_cells h7.own (H := H2) (a := .int .i64 ph) (b := .int .i64 dn) (c := .slice fa ns.length fc) (d := .slice none 0 0) (e := .slice none 0 0) (List.mem_cons_self ..); clear h7)
        | (go_at_call 15; (first | refine (HT.out _ H7.out).mono ?_ | refine (HT.out _ (H7.out.later (Below.refl _ _).drew)).mono ?_); rintro e w8 ⟨rfl, h8⟩; obtain ⟨⟨_, _, c8, _, _⟩, _, _⟩ := t5_cells h8.own (H := H2) (a := .int .i64 ph) (b := .int .i64 dn) (c := .slice fa ns.length fc) (d := .slice none 0 0) (e := .slice none 0 0) (List.mem_cons_self ..); obtain ⟨v9, w9, a9, c9, hr9, rfl, z9, zf9, zl9, hR9⟩ := mv_step h8 A.1 (strOfNums C.1) Hlen.out; have HX := Lib.hid (Hstep.out _ _ _ _ _ hR9 HM.out); have qk : okAppM (w8.alloc (.cells #[.int .i64 A.1, .string (strOfNums C.1)] 36)) 24 (.slice fa ns.length fc) (.slice (some ⟨w8.heap.size, 0, none⟩) 1 1) := ⟨_, _, hr9⟩; have qv : appVM (w8.alloc (.cells #[.int .i64 A.1, .string (strOfNums C.1)] 36)) 24 (.slice fa ns.length fc) (.slice (some ⟨w8.heap.size, 0, none⟩) 1 1) = .slice a9 (ns.length + 1) c9 := (by unfold appVM; rw [hr9]); have qw : appWM (w8.alloc (.cells #[.int .i64 A.1, .string (strOfNums C.1)] 36)) 24 (.slice fa ns.length fc) (.slice (some ⟨w8.heap.size, 0, none⟩) 1 1) = w9 := (by unfold appWM; rw [hr9]); clear h8 hr9 hR9))
      all_goals go_wp2_with fail
      all_goals go_roundw
      all_goals first | exact HX.out.1 | exact HX.out.2
end Go.Proofs.YtjhaihckbmkiaaaDoor
