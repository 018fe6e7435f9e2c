/- The document's example of package txn, as plain data; the law's right and same. -/
import Derived.Test.YtjhaihckbmkiaaaDoorTx6
import Derived.Test.YtjhaihckbmkiaaaDoorPRef2
namespace Go.Proofs.YtjhaihckbmkiaaaDoor
open Go.RowKit
set_option linter.unusedVariables false
set_option linter.unusedSimpArgs false
set_option maxRecDepth 100000

def exT : TxD := ⟨1, 1, [⟨1, ⟨#[47, 102]⟩⟩], [⟨#[97]⟩], []⟩
theorem exT_len : (packT exT).length = 35 := by rfl
theorem exT_back : unT (packT exT) = exT := by rfl
theorem exT_ok : txOk exT = true := by rfl
def atT : TxD := ⟨0, 1, [], [], []⟩
theorem atT_no : txOk atT = false := by rfl
theorem one_no : ¬ packT (unT [1]) = [1] := by
  intro h
  have h1 := packT_len (unT [1])
  rw [h] at h1
  simp at h1
  omega
theorem exT_fits : TxFits exT := ⟨by decide, fun m hm => by rw [List.mem_singleton.1 hm]; decide, by decide, fun m hm => by rw [List.mem_singleton.1 hm]; decide, by decide, fun m hm => by cases hm⟩
theorem atT_fits : TxFits atT := ⟨by decide, (fun m hm => by cases hm), by decide, (fun m hm => by cases hm), by decide, (fun m hm => by cases hm)⟩
def txNo : TxP := ⟨none, 0, none, 0, none, 0⟩
theorem atT_at (w : World) : TxAt w atT txNo := ⟨fun i hi => absurd hi (Nat.not_lt_zero _), fun i hi => absurd hi (Nat.not_lt_zero _), fun i hi => absurd hi (Nat.not_lt_zero _)⟩
set_option maxHeartbeats 4000000 in
/-- Two zero upgrades are the same. -/
theorem same_zero (w : World) : Calls Tryd.prog 7 #[.agg #[.int .i64 0, .int .i64 0, .slice none 0 0, .slice none 0 0, .slice none 0 0], .agg #[.int .i64 0, .int .i64 0, .slice none 0 0, .slice none 0 0, .slice none 0 0]] w fun e w' => e = .returned (.bool true) ∧ Below w.heap.size w w' := by
  have hb : Below w.heap.size w ((w.alloc (.cells #[.int .i64 0, .int .i64 0, .slice none 0 0, .slice none 0 0, .slice none 0 0] 27)).alloc (.cells #[.int .i64 0, .int .i64 0, .slice none 0 0, .slice none 0 0, .slice none 0 0] 27)) := ((Below.refl _ w).alloc (Nat.le_refl _) _).alloc (by simp) _
  have HB := Lib.hid hb
  clear hb
  go_enter Tryd.func7, Tryd.ntmps7
  go_wp2_with fail
  go_loopw [53] (fun i wr => i = .int .i64 0 ∧ wr = ((w.alloc (.cells #[.int .i64 0, .int .i64 0, .slice none 0 0, .slice none 0 0, .slice none 0 0] 27)).alloc (.cells #[.int .i64 0, .int .i64 0, .slice none 0 0, .slice none 0 0, .slice none 0 0] 27))) (fun _ _ => 0)
  case atStart => exact ⟨rfl, rfl⟩
  case round =>
    obtain ⟨rfl, rfl⟩ := hrel
    go_wp2_with fail
    go_loopw [69] (fun i wr => i = .int .i64 0 ∧ wr = ((w.alloc (.cells #[.int .i64 0, .int .i64 0, .slice none 0 0, .slice none 0 0, .slice none 0 0] 27)).alloc (.cells #[.int .i64 0, .int .i64 0, .slice none 0 0, .slice none 0 0, .slice none 0 0] 27))) (fun _ _ => 0)
    case atStart => exact ⟨rfl, rfl⟩
    case round =>
      obtain ⟨rfl, rfl⟩ := hrel
      go_wp2_with fail
      go_loopw [85] (fun i wr => i = .int .i64 0 ∧ wr = ((w.alloc (.cells #[.int .i64 0, .int .i64 0, .slice none 0 0, .slice none 0 0, .slice none 0 0] 27)).alloc (.cells #[.int .i64 0, .int .i64 0, .slice none 0 0, .slice none 0 0, .slice none 0 0] 27))) (fun _ _ => 0)
      case atStart => exact ⟨rfl, rfl⟩
      case round =>
        obtain ⟨rfl, rfl⟩ := hrel
        go_wp2_with fail
        go_ret
        exact ⟨rfl, HB.out⟩
/-- What may be is right by the document, too. -/
structure RightD (D : TxD) : Prop where
  p0 : ¬ D.phase < 0
  p1 : ¬ 4 < D.phase
  d0 : ¬ D.done < 0
  d1 : ¬ (D.moves.length : Int) < D.done
  m0 : D.moves.length ≤ 40
  n0 : D.come.length + D.gone.length ≤ 24
  mv : ∀ m ∈ D.moves, ¬ m.kind < 0 ∧ ¬ 2 < m.kind ∧ namesL m.path.data.toList ≠ []
  co : ∀ s ∈ D.come, nameL s.data.toList = true
  gn : ∀ s ∈ D.gone, nameL s.data.toList = true
theorem rightD_of {D : TxD} (h : txOk D = true) : RightD D := by
  unfold txOk txFew at h
  simp only [Bool.and_eq_true, Bool.not_eq_true', decide_eq_false_iff_not, List.any_eq_false] at h
  obtain ⟨⟨⟨⟨⟨h1, h2⟩, h3⟩, h4⟩, h5, h6⟩, ⟨h7, h8⟩, h9⟩ := h
  refine ⟨h1, h2, h3, h4, by omega, by omega, fun m hm => ?_, fun s hs => ?_, fun s hs => ?_⟩
  · have := h7 m hm
    simp only [mvOk, Bool.not_eq_true', Bool.not_eq_false, Bool.and_eq_true, decide_eq_false_iff_not, decide_eq_true_eq] at this
    exact ⟨this.1.1, this.1.2, this.2⟩
  · have := h8 s hs
    simpa [nmOk] using this
  · have := h9 s hs
    simpa [nmOk] using this
theorem okP_of {l : List UInt8} (h : namesL l ≠ []) : okP l = true := by
  cases hk : okP l with
  | true => rfl
  | false =>
    exfalso
    apply h
    unfold namesL
    rw [hk]
    split <;> rfl
set_option maxHeartbeats 8000000 in
theorem lright_yes (D : TxD) (P : TxP) (w : World) (hD : TxAt w D P) (hf : TxFits D) (hok : RightD D) :
    Calls Tryd.prog 8 #[.agg #[.int .i64 D.phase, .int .i64 D.done, .slice P.am D.moves.length P.cm, .slice P.ac D.come.length P.cc, .slice P.ag D.gone.length P.cg]] w fun e w' => e = .returned (.bool true) ∧ Below w.heap.size w w' := by
  have HX := Lib.hid (show Own w _ [rowT5 w.heap.size (txCells D P)] from (Own.start w).box5 (.int .i64 D.phase) (.int .i64 D.done) (.slice P.am D.moves.length P.cm) (.slice P.ac D.come.length P.cc) (.slice P.ag D.gone.length P.cg) 27)
  have HD := Lib.hid hD
  have HF := Lib.hid hf
  obtain ⟨i0, i1, i2, i3, m0, n0, hmv, hco, hgn⟩ := hok
  have i4 : ¬ (40 : Int) < (D.moves.length : Int) := by omega
  have i5 : ¬ (24 : Int) < (D.come.length : Int) + (D.gone.length : Int) := by omega
  have j1 : (D.come.length : Int) ≤ 24 := by omega
  have j2 : (D.gone.length : Int) ≤ 24 := by omega
  have Hmv := Lib.hid hmv
  have Hco := Lib.hid hco
  have Hgn := Lib.hid hgn
  clear hmv hco hgn hD hf
  go_enter Tryd.func8, Tryd.ntmps8
  go_wp2_with fail
  clear i0 i1 i2 i3 i4 i5
  have Hst := Lib.hid (show ∃ k : Nat, (Value.int .i64 0) = .int .i64 k ∧ k ≤ D.moves.length ∧ Own w _ [rowT5 w.heap.size (txCells D P)] from ⟨0, rfl, Nat.zero_le _, HX.out⟩)
  go_loopw [51] (fun i wr => ∃ k : Nat, i = .int .i64 k ∧ k ≤ D.moves.length ∧ Own w wr [rowT5 w.heap.size (txCells D P)]) (fun i _ => D.moves.length - (intOf i).toNat)
  case atStart => exact Hst.out
  case round =>
    obtain ⟨k, rfl, hk, hO⟩ := hrel
    clear Hst HX
    by_cases hlt : k < D.moves.length
    · obtain ⟨g, o, ham, hr⟩ := (HD.out.later hO.below).moves k (by rw [List.length_map]; exact hlt)
      rw [List.getElem_map] at hr
      have r0 := hr 0 _ rfl
      have r1 := hr 1 _ rfl
      rw [Nat.add_zero] at r0
      obtain ⟨g0, g1, hne⟩ := Hmv.out _ (List.getElem_mem hlt)
      have hsz := HF.out.move _ (List.getElem_mem hlt)
      have hok := okP_of hne
      have hpos := List.length_pos_iff.2 hne
      have hb9 := (names_bounds D.moves[k].path.data.toList).1
      have hsp := fun w1 => refsplit_any D.moves[k].path w1 (by unfold maxLen; omega)
      have HX := Lib.hid (hO.box2 (.int .i64 D.moves[k].kind) (.string D.moves[k].path) 36)
      rw [ham]
      clear hr ham hne hO hsz
      generalize D.moves[k] = x at *
      obtain ⟨κ, p⟩ := x
      dsimp only [MvD.cells] at *
      unfold SplitPost at hsp
      rw [hok] at hsp
      generalize namesL p.data.toList = ls at *
      go_wp2_with fail
      refine (hsp _).mono ?_
      rintro e w2 ⟨v2, rfl, hO2⟩
      obtain ⟨a2, c2, rfl, _, _⟩ := hO2.sized
      have HX2 := Lib.hid (HX.out.later hO2.below)
      obtain ⟨q0, q1⟩ := boxM_cells (H := wr.heap.size) (k := κ) (p := p) HX2.out (List.mem_cons_self ..)
      have hls : ((ls.length : Int) == 0) = false := by rw [beq_eq_false_iff_ne]; omega
      have HT := Lib.hid (HX2.out.tail)
      clear hO2 HX hsp r0 r1 hok
      generalize ls.length = nl at *
      go_wp2_with fail
      go_roundw
      case rel => exact ⟨k + 1, by go_num, hlt, HT.out⟩
      case measure => simp [intOf]; omega
    · have hke : ¬ (k : Int) < (D.moves.length : Int) := by omega
      obtain ⟨⟨_, _, _, c3, c4⟩, _⟩ := t5_cells hO (H := w.heap.size) (List.mem_cons_self ..)
      have HO := Lib.hid hO
      clear hO
      go_wp2_with fail
      have Hs2 := Lib.hid (show ∃ k : Nat, (Value.int .i64 0) = .int .i64 k ∧ k ≤ D.come.length ∧ Own w wr [rowT5 w.heap.size (txCells D P)] from ⟨0, rfl, Nat.zero_le _, HO.out⟩)
      clear c3 c4 HO Hmv
      go_loopw [82] (fun i wr => ∃ k : Nat, i = .int .i64 k ∧ k ≤ D.come.length ∧ Own w wr [rowT5 w.heap.size (txCells D P)]) (fun i _ => D.come.length - (intOf i).toNat)
      case atStart => exact Hs2.out
      case round =>
        obtain ⟨k2, rfl, hk2, hO⟩ := hrel
        clear Hs2
        by_cases hlt : k2 < D.come.length
        · obtain ⟨g, o, ham, hr⟩ := (HD.out.later hO.below).come k2 (by rw [List.length_map]; exact hlt)
          rw [List.getElem_map, Nat.mul_one] at hr
          have r0 := hr 0 _ rfl
          rw [Nat.add_zero] at r0
          have hnm := Hco.out _ (List.getElem_mem hlt)
          have hsz := HF.out.comes _ (List.getElem_mem hlt)
          have hsp := fun w1 => refname_any D.come[k2] w1 (by unfold maxLen; omega)
          simp only [hnm] at hsp
          have HO := Lib.hid hO
          rw [ham]
          clear hr ham hO hsz hnm
          generalize D.come[k2] = x at *
          go_wp2_with fail
          refine (hsp _).mono ?_
          rintro e w2 ⟨rfl, rfl⟩
          go_wp2_with fail
          go_roundw
          case rel => exact ⟨k2 + 1, by go_num, hlt, HO.out⟩
          case measure => simp [intOf]; omega
        · have hke2 : ¬ (k2 : Int) < (D.come.length : Int) := by omega
          obtain ⟨⟨_, _, _, c3, c4⟩, _⟩ := t5_cells hO (H := w.heap.size) (List.mem_cons_self ..)
          have HO := Lib.hid hO
          clear hO
          go_wp2_with fail
          have Hs3 := Lib.hid (show ∃ k : Nat, (Value.int .i64 0) = .int .i64 k ∧ k ≤ D.gone.length ∧ Own w wr [rowT5 w.heap.size (txCells D P)] from ⟨0, rfl, Nat.zero_le _, HO.out⟩)
          clear c3 c4 HO Hco
          go_loopw [93] (fun i wr => ∃ k : Nat, i = .int .i64 k ∧ k ≤ D.gone.length ∧ Own w wr [rowT5 w.heap.size (txCells D P)]) (fun i _ => D.gone.length - (intOf i).toNat)
          case atStart => exact Hs3.out
          case round =>
            obtain ⟨k3, rfl, hk3, hO⟩ := hrel
            clear Hs3
            by_cases hlt : k3 < D.gone.length
            · obtain ⟨g, o, ham, hr⟩ := (HD.out.later hO.below).gone k3 (by rw [List.length_map]; exact hlt)
              rw [List.getElem_map, Nat.mul_one] at hr
              have r0 := hr 0 _ rfl
              rw [Nat.add_zero] at r0
              have hnm := Hgn.out _ (List.getElem_mem hlt)
              have hsz := HF.out.gones _ (List.getElem_mem hlt)
              have hsp := fun w1 => refname_any D.gone[k3] w1 (by unfold maxLen; omega)
              simp only [hnm] at hsp
              have HO := Lib.hid hO
              rw [ham]
              clear hr ham hO hsz hnm
              generalize D.gone[k3] = x at *
              go_wp2_with fail
              refine (hsp _).mono ?_
              rintro e w2 ⟨rfl, rfl⟩
              go_wp2_with fail
              go_roundw
              case rel => exact ⟨k3 + 1, by go_num, hlt, HO.out⟩
              case measure => simp [intOf]; omega
            · have hke3 : ¬ (k3 : Int) < (D.gone.length : Int) := by omega
              have HO := Lib.hid hO
              clear hO
              go_wp2_with fail
              go_ret
              exact ⟨rfl, HO.out.below⟩
end Go.Proofs.YtjhaihckbmkiaaaDoor
