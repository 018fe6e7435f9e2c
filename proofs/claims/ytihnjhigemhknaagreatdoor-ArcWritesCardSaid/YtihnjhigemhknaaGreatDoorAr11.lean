/- What is taken from a reader: a text, a need, a file. -/
import Derived.Test.YtihnjhigemhknaaGreatDoorAr10
namespace Go.Proofs.YtihnjhigemhknaaGreatDoor
open Go.RowKit
set_option linter.unusedVariables false
set_option linter.unusedSimpArgs false
set_option maxRecDepth 100000

abbrev mxI : Int := 9223372036854775807
abbrev box3 (T : TypeId) (H : Nat) (x y z : Value) : Rw := ⟨T, 3, .slice (some ⟨H, 0, none⟩) 1 1, 1, [x, y, z]⟩
theorem Rd.box {W0 : Base} {w : World} {L : List Rw} {r : Nat} {zs : List Int} {bad : Bool} (h : Rd W0 w L r zs bad) (x y z : Value) (T : TypeId) : Rd W0 (w.alloc (.cells #[x, y, z] T)) (box3 T w.heap.size x y z :: L) r zs bad := by
  obtain ⟨v, h1, h2⟩ := h
  exact ⟨v, (h1.box3 x y z T).swap, h2.cons _⟩
theorem Rd.boxCells {W0 : Base} {w : World} {L : List Rw} {r : Nat} {zs : List Int} {bad : Bool} {T : TypeId} {H : Nat} {x y z : Value} (h : Rd W0 w L r zs bad) (hm : box3 T H x y z ∈ L) : (w.cell? ⟨H, 0, none⟩ = some x ∧ w.cell? ⟨H, 1, none⟩ = some y ∧ w.cell? ⟨H, 2, none⟩ = some z) ∧ w.frozen? ⟨H, 0, none⟩ = false ∧ w.frozen? ⟨H, 1, none⟩ = false ∧ w.frozen? ⟨H, 2, none⟩ = false ∧ w.rangeAt H 0 [x, y, z] := by
  have h1 := h.own.only hm
  exact ⟨⟨Own.cell (h := h1) 0 (by decide), Own.cell (h := h1) 1 (by decide), Own.cell (h := h1) 2 (by decide)⟩, Own.free (h := h1) 0, Own.free (h := h1) 1, Own.free (h := h1) 2, Own.range (h := h1) 0 3⟩
theorem Rd.boxSet {W0 : Base} {w : World} {L : List Rw} {r : Nat} {zs : List Int} {bad : Bool} {T : TypeId} {H : Nat} {x y z : Value} (h : Rd W0 w (box3 T H x y z :: L) r zs bad) (hT : T ≠ 5) (x' y' z' : Value) : Rd W0 (w.setCells H 0 [x', y', z']) (box3 T H x' y' z' :: L) r zs bad := by
  obtain ⟨v, h1, h2⟩ := h
  refine ⟨v, (Own.setCells (h := (show Own W0 w (⟨T, 3, .slice (some ⟨H, 0, none⟩) 1 1, 1, [x, y, z]⟩ :: _) from h1.swap)) [x', y', z'] 0).swap, h2.keep fun q hq he => ?_⟩
  rcases List.mem_cons.1 hq with rfl | hq
  · exact absurd he hT
  · exact List.mem_cons_of_mem _ hq
theorem Rd.unbox {W0 : Base} {w : World} {L : List Rw} {r : Nat} {zs : List Int} {bad : Bool} {T : TypeId} {H : Nat} {x y z : Value} (h : Rd W0 w (box3 T H x y z :: L) r zs bad) (hT : T ≠ 5) : Rd W0 w L r zs bad := by
  obtain ⟨v, h1, h2⟩ := h
  refine ⟨v, h1.swap.tail, h2.keep fun q hq he => ?_⟩
  rcases List.mem_cons.1 hq with rfl | hq
  · exact absurd he hT
  · exact hq
theorem atext_any {W0 : Base} {w : World} {L : List Rw} {r : Nat} {zs : List Int} {bad : Bool} (h : Rd W0 w L r zs bad) :
    Calls Tryz.prog 55 #[.pointer (some ⟨r, 0, none⟩)] w fun e w' => e = .returned (.string (strOfNums (bodP mxI zs bad).1)) ∧ Rd W0 w' L r (bodP mxI zs bad).2.1 (bodP mxI zs bad).2.2 := by
  have hc := h.text mxI
  clear h
  generalize bodP mxI zs bad = B at *
  go_enter Tryz.func55, Tryz.ntmps55
  go_wp2_with fail
  refine hc.mono ?_
  rintro e w2 ⟨rfl, h2⟩
  have H2 := Lib.hid h2
  clear hc h2
  go_wp2_with fail
  go_ret
  exact ⟨rfl, H2.out⟩
theorem atruth_any {W0 : Base} {w : World} {L : List Rw} {r : Nat} {zs : List Int} {bad : Bool} (h : Rd W0 w L r zs bad) :
    Calls Tryz.prog 79 #[.pointer (some ⟨r, 0, none⟩)] w fun e w' => e = .returned (.bool ((numP 1 zs bad).1 == 1)) ∧ Rd W0 w' L r (numP 1 zs bad).2.1 (numP 1 zs bad).2.2 := by
  have hc := h.num 1
  clear h
  generalize numP 1 zs bad = B at *
  go_enter Tryz.func79, Tryz.ntmps79
  go_wp2_with fail
  refine hc.mono ?_
  rintro e w2 ⟨rfl, h2⟩
  have H2 := Lib.hid h2
  clear hc h2
  go_wp2_with fail
  go_ret
  exact ⟨rfl, H2.out⟩
/-- A need, a file off what is left. -/
def needT (zs : List Int) (bad : Bool) : NeedD × List Int × Bool :=
  let a := bodP mxI zs bad
  let b := numP mxI a.2.1 a.2.2
  let c := bodP mxI b.2.1 b.2.2
  (⟨strOfNums a.1, b.1, strOfNums c.1⟩, c.2.1, c.2.2)
set_option maxHeartbeats 4000000 in
theorem aneed_any {W0 : Base} {w : World} {L : List Rw} {r : Nat} {zs : List Int} {bad : Bool} (h : Rd W0 w L r zs bad) :
    Calls Tryz.prog 58 #[.pointer (some ⟨r, 0, none⟩)] w fun e w' => e = .returned (.agg #[.string (needT zs bad).1.name, .int .i64 (needT zs bad).1.way, .string (needT zs bad).1.ver]) ∧ Rd W0 w' L r (needT zs bad).2.1 (needT zs bad).2.2 := by
  have h1 := h.box (.string ⟨#[]⟩) (.int .i64 0) (.string ⟨#[]⟩) 53
  have hT : (53 : TypeId) ≠ 5 := by decide
  have HG := Lib.hid (show needT zs bad = (⟨strOfNums (bodP mxI zs bad).1, (numP mxI (bodP mxI zs bad).2.1 (bodP mxI zs bad).2.2).1, strOfNums (bodP mxI (numP mxI (bodP mxI zs bad).2.1 (bodP mxI zs bad).2.2).2.1 (numP mxI (bodP mxI zs bad).2.1 (bodP mxI zs bad).2.2).2.2).1⟩, (bodP mxI (numP mxI (bodP mxI zs bad).2.1 (bodP mxI zs bad).2.2).2.1 (numP mxI (bodP mxI zs bad).2.1 (bodP mxI zs bad).2.2).2.2).2.1, (bodP mxI (numP mxI (bodP mxI zs bad).2.1 (bodP mxI zs bad).2.2).2.1 (numP mxI (bodP mxI zs bad).2.1 (bodP mxI zs bad).2.2).2.2).2.2) from rfl)
  have hc := atext_any h1
  have hir : (Tryz.prog.info? 53).map (·.size) = some 3 := by kernel_rfl
  obtain ⟨A, hA⟩ : ∃ A, bodP mxI zs bad = A := ⟨_, rfl⟩
  obtain ⟨B, hB⟩ : ∃ B, numP mxI A.2.1 A.2.2 = B := ⟨_, rfl⟩
  obtain ⟨C, hC⟩ : ∃ C, bodP mxI B.2.1 B.2.2 = C := ⟨_, rfl⟩
  simp only [HG.out, hA, hB, hC]
  rw [hA] at hc
  have HB := Lib.hid hB
  have HC := Lib.hid hC
  clear HG h h1 hA hB hC
  go_enter Tryz.func58, Tryz.ntmps58
  go_wp2_with fail
  refine hc.mono ?_
  rintro e w2 ⟨rfl, h2⟩
  have hc2 := h2.num mxI
  rw [HB.out] at hc2
  clear hc h2
  go_wp2_with fail
  refine hc2.mono ?_
  rintro e w3 ⟨rfl, h3⟩
  have hc3 := atext_any h3
  rw [HC.out] at hc3
  clear hc2 h3
  go_wp2_with fail
  refine hc3.mono ?_
  rintro e w4 ⟨rfl, h4⟩
  obtain ⟨⟨q0, q1, q2⟩, f0, f1, f2, _⟩ := h4.boxCells (List.mem_cons_self ..)
  have h5 := Lib.hid (h4.boxSet hT (.string (strOfNums A.1)) (.int .i64 B.1) (.string (strOfNums C.1)))
  clear hc3 h4
  go_wp2_with fail
  obtain ⟨_, _, _, _, k5⟩ := h5.out.boxCells (List.mem_cons_self ..)
  refine bodyPost_ret (v := .agg [Value.string (strOfNums A.1), .int .i64 B.1, .string (strOfNums C.1)].toArray) (ret_cellV Tryz.results58 rfl k5 Tryz.underlying53 rfl hir) rfl ?_
  exact ⟨rfl, h5.out.unbox hT⟩
/-- A file: its bytes' slice is known behind the call alone. -/
def fileT (zs : List Int) (bad : Bool) : (ByteArray × Bool × List Int) × List Int × Bool :=
  let a := bodP mxI zs bad
  let b := numP 1 a.2.1 a.2.2
  let c := bodP mxI b.2.1 b.2.2
  ((strOfNums a.1, b.1 == 1, c.1), c.2.1, c.2.2)
set_option maxHeartbeats 4000000 in
theorem afile_any {W0 : Base} {w : World} {L : List Rw} {r : Nat} {zs : List Int} {bad : Bool} (h : Rd W0 w L r zs bad) :
    Calls Tryz.prog 61 #[.pointer (some ⟨r, 0, none⟩)] w fun e w' => ∃ (a : Option Addr) (n c : Nat) (L1 : List Rw), e = .returned (.agg #[.string (fileT zs bad).1.1, .bool (fileT zs bad).1.2.1, .slice a n c]) ∧ Rd W0 w' (L1 ++ L) r (fileT zs bad).2.1 (fileT zs bad).2.2 ∧ Pc L1 (.slice a n c) (fileT zs bad).1.2.2 := by
  have h1 := h.box (.string ⟨#[]⟩) (.bool false) (.slice none 0 0) 51
  have hT : (51 : TypeId) ≠ 5 := by decide
  have HG := Lib.hid (show fileT zs bad = ((strOfNums (bodP mxI zs bad).1, (numP 1 (bodP mxI zs bad).2.1 (bodP mxI zs bad).2.2).1 == 1, (bodP mxI (numP 1 (bodP mxI zs bad).2.1 (bodP mxI zs bad).2.2).2.1 (numP 1 (bodP mxI zs bad).2.1 (bodP mxI zs bad).2.2).2.2).1), (bodP mxI (numP 1 (bodP mxI zs bad).2.1 (bodP mxI zs bad).2.2).2.1 (numP 1 (bodP mxI zs bad).2.1 (bodP mxI zs bad).2.2).2.2).2.1, (bodP mxI (numP 1 (bodP mxI zs bad).2.1 (bodP mxI zs bad).2.2).2.1 (numP 1 (bodP mxI zs bad).2.1 (bodP mxI zs bad).2.2).2.2).2.2) from rfl)
  have hc := atext_any h1
  have hir : (Tryz.prog.info? 51).map (·.size) = some 3 := by kernel_rfl
  obtain ⟨A, hA⟩ : ∃ A, bodP mxI zs bad = A := ⟨_, rfl⟩
  obtain ⟨B, hB⟩ : ∃ B, numP 1 A.2.1 A.2.2 = B := ⟨_, rfl⟩
  obtain ⟨C, hC⟩ : ∃ C, bodP mxI B.2.1 B.2.2 = C := ⟨_, rfl⟩
  simp only [HG.out, hA, hB, hC]
  rw [hA] at hc
  have HB := Lib.hid hB
  have HC := Lib.hid hC
  clear HG h h1 hA hB hC
  go_enter Tryz.func61, Tryz.ntmps61
  go_wp2_with fail
  refine hc.mono ?_
  rintro e w2 ⟨rfl, h2⟩
  have hc2 := atruth_any h2
  rw [HB.out] at hc2
  clear hc h2
  go_wp2_with fail
  refine hc2.mono ?_
  rintro e w3 ⟨rfl, h3⟩
  have hc3 := h3.raw mxI
  rw [HC.out] at hc3
  clear hc2 h3
  go_wp2_with fail
  refine hc3.mono ?_
  rintro e w4 ⟨v4, L1, rfl, h4, hp4⟩
  obtain ⟨a4, n4, c4, rfl⟩ := hp4.form
  obtain ⟨v5, h4a, h4b⟩ := h4
  have h4' : Rd W0 w4 (box3 51 w.heap.size (.string ⟨#[]⟩) (.bool false) (.slice none 0 0) :: (L1 ++ L)) r C.2.1 C.2.2 := ⟨v5, h4a.perm (List.Perm.cons _ List.perm_middle), h4b.mono fun x hx => by
    rcases List.mem_append.1 hx with hx | hx
    · exact List.mem_cons_of_mem _ (List.mem_append_left _ hx)
    · rcases List.mem_cons.1 hx with rfl | hx
      · exact List.mem_cons_self ..
      · exact List.mem_cons_of_mem _ (List.mem_append_right _ hx)⟩
  obtain ⟨⟨q0, q1, q2⟩, f0, f1, f2, _⟩ := h4'.boxCells (List.mem_cons_self ..)
  have h5 := Lib.hid (h4'.boxSet hT (.string (strOfNums A.1)) (.bool (B.1 == 1)) (.slice a4 n4 c4))
  have Hp4 := Lib.hid hp4
  clear hc3 h4' h4a h4b hp4
  go_wp2_with fail
  obtain ⟨_, _, _, _, k5⟩ := h5.out.boxCells (List.mem_cons_self ..)
  refine bodyPost_ret (v := .agg [Value.string (strOfNums A.1), .bool (B.1 == 1), .slice a4 n4 c4].toArray) (ret_cellV Tryz.results61 rfl k5 Tryz.underlying51 rfl hir) rfl ?_
  exact ⟨a4, n4, c4, L1, rfl, h5.out.unbox hT, Hp4.out⟩
end Go.Proofs.YtihnjhigemhknaaGreatDoor
