/- Whether an upgrade may be: the walk. -/
import Derived.Test.YtjhaihckbmkiaaaDoorTx0
namespace Go.Proofs.YtjhaihckbmkiaaaDoor
open Go.RowKit
set_option linter.unusedVariables false
set_option linter.unusedSimpArgs false
set_option maxRecDepth 100000

theorem Own.box5 {W0 : Base} {w : World} {L : List Rw} (h : Own W0 w L) (a b c d e : Value) (T : TypeId) : Own W0 (w.alloc (.cells #[a, b, c, d, e] T)) (⟨T, 5, .slice (some ⟨w.heap.size, 0, none⟩) 1 1, 1, [a, b, c, d, e]⟩ :: L) :=
  h.made T 5 #[a, b, c, d, e] 1 rfl (by unfold maxLen; decide)
def rowT5 (g : Nat) (cs : List Value) : Rw := ⟨27, 5, .slice (some ⟨g, 0, none⟩) 1 1, 1, cs⟩
theorem t5_cells {W0 : Base} {w : World} {L : List Rw} {H : Nat} {a b c d e : Value} (h : Own W0 w L) (hm : rowT5 H [a, b, c, d, e] ∈ L) : (w.cell? ⟨H, 0, none⟩ = some a ∧ w.cell? ⟨H, 1, none⟩ = some b ∧ w.cell? ⟨H, 2, none⟩ = some c ∧ w.cell? ⟨H, 3, none⟩ = some d ∧ w.cell? ⟨H, 4, none⟩ = some e) ∧ (w.frozen? ⟨H, 0, none⟩ = false ∧ w.frozen? ⟨H, 1, none⟩ = false ∧ w.frozen? ⟨H, 2, none⟩ = false ∧ w.frozen? ⟨H, 3, none⟩ = false ∧ w.frozen? ⟨H, 4, none⟩ = false) ∧ w.rangeAt H 0 [a, b, c, d, e] := by
  have h1 := h.only hm
  exact ⟨⟨Own.cell (h := h1) 0 (by decide), Own.cell (h := h1) 1 (by decide), Own.cell (h := h1) 2 (by decide), Own.cell (h := h1) 3 (by decide), Own.cell (h := h1) 4 (by decide)⟩, ⟨Own.free (h := h1) 0, Own.free (h := h1) 1, Own.free (h := h1) 2, Own.free (h := h1) 3, Own.free (h := h1) 4⟩, Own.range (h := h1) 0 5⟩
theorem t5_set {W0 : Base} {w : World} {A B : List Rw} {H : Nat} {cs : List Value} (h : Own W0 w (A ++ rowT5 H cs :: B)) (hl : cs.length = 5) (ds : List Value) (hd : ds.length = 5) : Own W0 (w.setCells H 0 ds) (rowT5 H ds :: (A ++ B)) := by
  have h1 := h.perm List.perm_middle
  have h2 := Own.setCells (h := (show Own W0 w (⟨27, 5, .slice (some ⟨H, 0, none⟩) 1 1, 1, cs⟩ :: (A ++ B)) from h1)) ds 0
  rw [splice_all' cs ds (by omega)] at h2
  exact h2
set_option maxHeartbeats 8000000 in
theorem txright_any (D : TxD) (P : TxP) (w : World) (hD : TxAt w D P) (hf : TxFits D) (hm : Mx w) :
    Calls Tryd.prog 10 #[.agg #[.int .i64 D.phase, .int .i64 D.done, .slice P.am D.moves.length P.cm, .slice P.ac D.come.length P.cc, .slice P.ag D.gone.length P.cg]] w fun e w' => e = .returned (.bool (txOk D)) ∧ Below w.heap.size w w' := by
  have HX := Lib.hid (show Own w _ [rowT5 w.heap.size (txCells D P)] from (Own.start w).box5 (.int .i64 D.phase) (.int .i64 D.done) (.slice P.am D.moves.length P.cm) (.slice P.ac D.come.length P.cc) (.slice P.ag D.gone.length P.cg) 27)
  have HD := Lib.hid hD
  have HF := Lib.hid hf
  have Hm := Lib.hid hm
  have HQ := Lib.hid (show txOk D = (txFew D && (!(D.moves.any fun m => !mvOk m) && !(D.come.any fun s => !nmOk s) && !(D.gone.any fun s => !nmOk s))) from rfl)
  have H1 := fun w1 (k1 : TxAt w1 D P) (k2 : Mx w1) => mv_has P.am P.cm D.moves (fun m => !mvOk m) w1 k1.moves hf.moves (fun x hx w' hb' => wmove_any x w' (hf.move x hx) (k2.later hb'))
  have H2 := fun w1 (k1 : TxAt w1 D P) => nm_has P.ac P.cc D.come (fun s => !nmOk s) w1 k1.come hf.come (fun x hx w' hb' => wname_any x w' (hf.comes x hx))
  have H3 := fun w1 (k1 : TxAt w1 D P) => nm_has P.ag P.cg D.gone (fun s => !nmOk s) w1 k1.gone hf.gone (fun x hx w' hb' => wname_any x w' (hf.gones x hx))
  have l1 := hf.come
  have l2 := hf.gone
  clear hD hf hm
  obtain ⟨Q, hQ⟩ : ∃ Q, txOk D = Q := ⟨_, rfl⟩
  rw [hQ] at HQ ⊢
  clear hQ
  obtain ⟨b1, hb1⟩ : ∃ q, (D.moves.any fun m => !mvOk m) = q := ⟨_, rfl⟩
  obtain ⟨b2, hb2⟩ : ∃ q, (D.come.any fun s => !nmOk s) = q := ⟨_, rfl⟩
  obtain ⟨b3, hb3⟩ : ∃ q, (D.gone.any fun s => !nmOk s) = q := ⟨_, rfl⟩
  rw [hb1, hb2, hb3] at HQ
  simp only [hb1] at H1
  simp only [hb2] at H2
  simp only [hb3] at H3
  clear hb1 hb2 hb3
  have HFew := Lib.hid (show txFew D = ((!decide (D.phase < 0) && !decide (4 < D.phase) && !decide (D.done < 0) && !decide ((D.moves.length : Int) < D.done)) && (!decide (40 < D.moves.length) && !decide (24 < D.come.length + D.gone.length))) from rfl)
  generalize txFew D = fw at *
  by_cases n0 : D.phase < 0
  · obtain rfl : fw = false := by rw [HFew.out, decide_eq_true n0]; simp
    obtain rfl : Q = false := HQ.out
    clear HQ HFew H1 H2 H3
    go_enter Tryd.func10, Tryd.ntmps10
    go_wp2_with fail
    go_ret
    exact ⟨rfl, HX.out.below⟩
  by_cases n1 : 4 < D.phase
  · obtain rfl : fw = false := by rw [HFew.out, decide_eq_true n1]; simp
    obtain rfl : Q = false := HQ.out
    clear HQ HFew H1 H2 H3
    go_enter Tryd.func10, Tryd.ntmps10
    go_wp2_with fail
    go_ret
    exact ⟨rfl, HX.out.below⟩
  by_cases n2 : D.done < 0
  · obtain rfl : fw = false := by rw [HFew.out, decide_eq_true n2]; simp
    obtain rfl : Q = false := HQ.out
    clear HQ HFew H1 H2 H3
    go_enter Tryd.func10, Tryd.ntmps10
    go_wp2_with fail
    go_ret
    exact ⟨rfl, HX.out.below⟩
  by_cases n3 : (D.moves.length : Int) < D.done
  · obtain rfl : fw = false := by rw [HFew.out, decide_eq_true n3]; simp
    obtain rfl : Q = false := HQ.out
    clear HQ HFew H1 H2 H3
    go_enter Tryd.func10, Tryd.ntmps10
    go_wp2_with fail
    go_ret
    exact ⟨rfl, HX.out.below⟩
  by_cases n4 : 40 < D.moves.length
  · obtain rfl : fw = false := by rw [HFew.out, decide_eq_true n4]; simp
    obtain rfl : Q = false := HQ.out
    have i4 : (40 : Int) < (D.moves.length : Int) := by omega
    clear HQ HFew H1 H2 H3
    go_enter Tryd.func10, Tryd.ntmps10
    go_wp2_with fail
    go_ret
    exact ⟨rfl, HX.out.below⟩
  have i4 : ¬ (40 : Int) < (D.moves.length : Int) := by omega
  by_cases n5 : 24 < D.come.length + D.gone.length
  · obtain rfl : fw = false := by rw [HFew.out, decide_eq_true n5]; simp
    obtain rfl : Q = false := HQ.out
    have i5 : (24 : Int) < (D.come.length : Int) + (D.gone.length : Int) := by omega
    clear HQ HFew H1 H2 H3
    go_enter Tryd.func10, Tryd.ntmps10
    go_wp2_with fail
    go_ret
    exact ⟨rfl, HX.out.below⟩
  have i5 : ¬ (24 : Int) < (D.come.length : Int) + (D.gone.length : Int) := by omega
  obtain rfl : fw = true := by rw [HFew.out, decide_eq_false n0, decide_eq_false n1, decide_eq_false n2, decide_eq_false n3, decide_eq_false n4, decide_eq_false n5]; rfl
  have HQ2 := Lib.hid (show Q = (!b1 && !b2 && !b3) by rw [HQ.out]; rfl)
  have c1 := H1 _ (HD.out.later HX.out.below) (Hm.out.later HX.out.below)
  clear HQ HFew n4 n5 H1
  go_enter Tryd.func10, Tryd.ntmps10
  go_wp2_with fail
  refine c1.mono ?_
  rintro e w4 ⟨rfl, hb4⟩
  have HX4 := Lib.hid (HX.out.later hb4)
  obtain ⟨⟨p0, p1, p2, p3, p4⟩, _⟩ := t5_cells HX4.out (H := w.heap.size) (List.mem_cons_self ..)
  clear c1 hb4 HX n0 n1 n2 n3 i4 i5
  cases b1 with
  | true =>
    obtain rfl : Q = false := HQ2.out
    go_wp2_with fail
    go_ret
    exact ⟨rfl, HX4.out.below⟩
  | false =>
    have c2 := H2 _ (HD.out.later HX4.out.below)
    go_wp2_with fail
    refine c2.mono ?_
    rintro e w5 ⟨rfl, hb5⟩
    have HX5 := Lib.hid (HX4.out.later hb5)
    clear c2 hb5 HX4 p0 p1 p2 p3 p4 H2
    obtain ⟨⟨p0, p1, p2, p3, p4⟩, _⟩ := t5_cells HX5.out (H := w.heap.size) (List.mem_cons_self ..)
    cases b2 with
    | true =>
      obtain rfl : Q = false := HQ2.out
      go_wp2_with fail
      go_ret
      exact ⟨rfl, HX5.out.below⟩
    | false =>
      have c3 := H3 _ (HD.out.later HX5.out.below)
      go_wp2_with fail
      refine c3.mono ?_
      rintro e w6 ⟨rfl, hb6⟩
      have HX6 := Lib.hid (HX5.out.later hb6)
      clear c3 hb6 HX5 p0 p1 p2 p3 p4 H3
      go_wp2_with fail
      go_ret
      exact ⟨by rw [HQ2.out]; rfl, HX6.out.below⟩
end Go.Proofs.YtjhaihckbmkiaaaDoor
