/- UnitLines: the walk. -/
import Derived.Test.YtmnohaefklglfaaDoorUn16
import Derived.Deep.RegionHeld3
namespace Go.Proofs.YtmnohaefklglfaaDoor
open Go.RowKit
set_option linter.unusedVariables false
set_option linter.unusedSimpArgs false
set_option maxRecDepth 100000

theorem unit_parts {w : World} {v : Value} {u : UD} (h : UnitV w v u) : ∃ (n : ByteArray) (a1 a2 a3 a4 a5 a6 : Option Addr) (m1 m2 m3 m4 m5 m6 c1 c2 c3 c4 c5 c6 : Nat) (r : Int), v = .agg #[.string n, .slice a1 m1 c1, .slice a2 m2 c2, .slice a3 m3 c3, .slice a4 m4 c4, .slice a5 m5 c5, .slice a6 m6 c6, .int .i64 r] := by
  obtain ⟨v0, v1, v2, v3, v4, v5, l0, l1, l2, l3, l4, l5, rfl, _, h3⟩ := h
  obtain ⟨a0, c0, rfl, _⟩ := h3.s0
  obtain ⟨a1, c1, rfl, _⟩ := h3.s1
  obtain ⟨a2, c2, rfl, _⟩ := h3.s2
  obtain ⟨a3, c3, rfl, _⟩ := h3.s3
  obtain ⟨a4, c4, rfl, _⟩ := h3.s4
  obtain ⟨a5, c5, rfl, _⟩ := h3.s5
  exact ⟨_, _, _, _, _, _, _, _, _, _, _, _, _, _, _, _, _, _, _, _, rfl⟩
theorem sameU_refl (u : UD) : sameU u u = true := by unfold sameU; simp
theorem parse_str (s : ByteArray) (l : List UInt8) (hl : s.data.toList = l) (hs : l.length ≤ 100000) (w : World) (hm : Mx w) :
    Calls Tryd.prog 7 #[.string s] w fun e w' => (∃ v, e = .returned (.tuple #[v, .int .i64 (parseU l).1, .int .i64 ((parseU l).2.1 : Nat)]) ∧ UnitV w' v (parseU l).2.2) ∧ Below w.heap.size w w' := by
  subst hl
  exact parse_one w hm s.data.toList hs
theorem lists_few (s : List UInt8) : ∀ l ∈ (parseU s).2.2.ls, l.length ≤ 1000000 := fun l hl => by
  have h := UOk.parse s
  obtain ⟨k, hk, e⟩ := List.mem_iff_getElem.1 hl
  have h6 : k < 6 := by rw [← h.six]; exact hk
  have h8 := (h.each k h6).2.2
  have : listU (parseU s).2.2 k = l := by unfold listU; simp [hk, e]
  rw [this] at h8
  omega
theorem box_cells {w : World} {b : Nat} {v0 v1 v2 v3 v4 v5 v6 v7 : Value} {T : TypeId} (h : w.heap[b]? = some (.cells #[v0, v1, v2, v3, v4, v5, v6, v7] T)) :
    w.cell? ⟨b, 0, none⟩ = some v0 ∧ w.cell? ⟨b, 1, none⟩ = some v1 ∧ w.cell? ⟨b, 2, none⟩ = some v2 ∧ w.cell? ⟨b, 3, none⟩ = some v3 ∧ w.cell? ⟨b, 4, none⟩ = some v4 ∧ w.cell? ⟨b, 5, none⟩ = some v5 ∧ w.cell? ⟨b, 6, none⟩ = some v6 ∧ w.cell? ⟨b, 7, none⟩ = some v7 :=
  ⟨cell_at h 0, cell_at h 1, cell_at h 2, cell_at h 3, cell_at h 4, cell_at h 5, cell_at h 6, cell_at h 7⟩
theorem four_cells {w : World} {b1 b2 b3 b4 : Nat} {v10 v11 v12 v13 v14 v15 v16 v17 : Value} {v20 v21 v22 v23 v24 v25 v26 v27 : Value} {v30 v31 v32 v33 v34 v35 v36 v37 : Value} {v40 v41 v42 v43 v44 v45 v46 v47 : Value} {T : TypeId}
    (h1 : w.heap[b1]? = some (.cells #[v10, v11, v12, v13, v14, v15, v16, v17] T)) (h2 : w.heap[b2]? = some (.cells #[v20, v21, v22, v23, v24, v25, v26, v27] T)) (h3 : w.heap[b3]? = some (.cells #[v30, v31, v32, v33, v34, v35, v36, v37] T)) (h4 : w.heap[b4]? = some (.cells #[v40, v41, v42, v43, v44, v45, v46, v47] T)) : w.cell? ⟨b1, 0, none⟩ = some v10 ∧ w.cell? ⟨b1, 1, none⟩ = some v11 ∧ w.cell? ⟨b1, 2, none⟩ = some v12 ∧ w.cell? ⟨b1, 3, none⟩ = some v13 ∧ w.cell? ⟨b1, 4, none⟩ = some v14 ∧ w.cell? ⟨b1, 5, none⟩ = some v15 ∧ w.cell? ⟨b1, 6, none⟩ = some v16 ∧ w.cell? ⟨b1, 7, none⟩ = some v17 ∧ w.cell? ⟨b2, 0, none⟩ = some v20 ∧ w.cell? ⟨b2, 1, none⟩ = some v21 ∧ w.cell? ⟨b2, 2, none⟩ = some v22 ∧ w.cell? ⟨b2, 3, none⟩ = some v23 ∧ w.cell? ⟨b2, 4, none⟩ = some v24 ∧ w.cell? ⟨b2, 5, none⟩ = some v25 ∧ w.cell? ⟨b2, 6, none⟩ = some v26 ∧ w.cell? ⟨b2, 7, none⟩ = some v27 ∧ w.cell? ⟨b3, 0, none⟩ = some v30 ∧ w.cell? ⟨b3, 1, none⟩ = some v31 ∧ w.cell? ⟨b3, 2, none⟩ = some v32 ∧ w.cell? ⟨b3, 3, none⟩ = some v33 ∧ w.cell? ⟨b3, 4, none⟩ = some v34 ∧ w.cell? ⟨b3, 5, none⟩ = some v35 ∧ w.cell? ⟨b3, 6, none⟩ = some v36 ∧ w.cell? ⟨b3, 7, none⟩ = some v37 ∧ w.cell? ⟨b4, 0, none⟩ = some v40 ∧ w.cell? ⟨b4, 1, none⟩ = some v41 ∧ w.cell? ⟨b4, 2, none⟩ = some v42 ∧ w.cell? ⟨b4, 3, none⟩ = some v43 ∧ w.cell? ⟨b4, 4, none⟩ = some v44 ∧ w.cell? ⟨b4, 5, none⟩ = some v45 ∧ w.cell? ⟨b4, 6, none⟩ = some v46 ∧ w.cell? ⟨b4, 7, none⟩ = some v47 := by
  obtain ⟨p0, p1, p2, p3, p4, p5, p6, p7⟩ := box_cells h1
  obtain ⟨q0, q1, q2, q3, q4, q5, q6, q7⟩ := box_cells h2
  obtain ⟨r0, r1, r2, r3, r4, r5, r6, r7⟩ := box_cells h3
  obtain ⟨s0, s1, s2, s3, s4, s5, s6, s7⟩ := box_cells h4
  exact ⟨p0, p1, p2, p3, p4, p5, p6, p7, q0, q1, q2, q3, q4, q5, q6, q7, r0, r1, r2, r3, r4, r5, r6, r7, s0, s1, s2, s3, s4, s5, s6, s7⟩
set_option maxHeartbeats 16000000 in
theorem lines_main (w : World) (hm : Mx w) (a b : ByteArray) (k : Int) (ha : a.size ≤ 500) (hb : b.size ≤ 500) :
    Calls Tryd.prog 4 #[.string a, .string b, .int .i64 k] w fun e w' => e = .returned (.bool true) ∧ Below w.heap.size w w' := by
  have hal := unit_alive w hm
  have za : a.data.toList.length = a.size := (Lib.size_eq a).symm
  have zb : b.data.toList.length = b.size := (Lib.size_eq b).symm
  have P1 := parse_str (a ++ ⟨#[10]⟩ ++ b) (a.data.toList ++ 10 :: b.data.toList) (by simp [ByteArray.data_append]) (by simp; omega)
  have P2 := parse_str (a ++ ⟨#[10, 10, 35, 32, 114, 101, 109, 97, 114, 107, 10]⟩ ++ b) (a.data.toList ++ 10 :: 10 :: (remarkL ++ 10 :: b.data.toList)) (by simp [ByteArray.data_append, remarkL]) (by simp [remarkL]; omega)
  have P3 := parse_str (⟨#[114, 101, 116, 114, 121, 32, 49, 10]⟩ ++ a) (retry1 ++ 10 :: a.data.toList) (by simp [ByteArray.data_append, retry1]) (by simp [retry1]; omega)
  have P4 := parse_str (a ++ ⟨#[10, 114, 101, 116, 114, 121, 32, 49]⟩) (a.data.toList ++ 10 :: retry1) (by simp [ByteArray.data_append, retry1]) (by simp [retry1]; omega)
  obtain ⟨q1, q2⟩ := lines_remark a.data.toList b.data.toList
  obtain ⟨q3, q4⟩ := lines_retry a.data.toList
  have f1 := lists_few (a.data.toList ++ 10 :: 10 :: (remarkL ++ 10 :: b.data.toList))
  have f3 := lists_few (a.data.toList ++ 10 :: retry1)
  simp only [q1, q2] at P1
  simp only [q4] at P3
  obtain ⟨A, hA⟩ : ∃ A, A = parseU (a.data.toList ++ 10 :: 10 :: (remarkL ++ 10 :: b.data.toList)) := ⟨_, rfl⟩
  obtain ⟨B, hB⟩ : ∃ B, B = parseU (a.data.toList ++ 10 :: retry1) := ⟨_, rfl⟩
  rw [← hA] at f1
  rw [← hB] at f3 q3
  simp only [← hA] at P1 P2
  simp only [← hB] at P3 P4
  generalize (parseU (retry1 ++ 10 :: a.data.toList)).1 = e3 at *
  generalize (parseU (retry1 ++ 10 :: a.data.toList)).2.1 = n3 at *
  generalize (parseU (a.data.toList ++ 10 :: b.data.toList)).2.1 = n1 at *
  obtain ⟨eA, nA, uA⟩ := A
  obtain ⟨eB, nB, uB⟩ := B
  dsimp only at P1 P2 P3 P4 q3 f1 f3
  have ga : ¬ (500 : Int) < (a.size : Int) := by omega
  have gb : ¬ (500 : Int) < (b.size : Int) := by omega
  have HP1 := Lib.hid P1
  have HP2 := Lib.hid P2
  have HP3 := Lib.hid P3
  have HP4 := Lib.hid P4
  have HM := Lib.hid hm
  have HF1 := Lib.hid f1
  have HF3 := Lib.hid f3
  have HQ3 := Lib.hid q3
  clear P1 P2 P3 P4 hm f1 f3 q3 q1 q2 q4 hA hB za zb ha hb
  go_enter Tryd.func4, Tryd.ntmps4
  go_wp2_with fail
  refine hal.mono ?_
  rintro e w1 ⟨rfl, hb1⟩
  clear hal
  have HB1 := Lib.hid hb1
  clear hb1
  go_wp2_with fail
  refine (HP1.out _ (HM.out.later HB1.out)).mono ?_
  rintro e y1 ⟨⟨u1, rfl, hV1⟩, hb1⟩
  have HV1 := Lib.hid hV1
  obtain ⟨n1, a11, a12, a13, a14, a15, a16, m11, m12, m13, m14, m15, m16, c11, c12, c13, c14, c15, c16, r1, rfl⟩ := unit_parts hV1
  have HY1 := Lib.hid (HB1.out.trans (hb1.mono HB1.out.size))
  obtain ⟨x1, hxe1⟩ : ∃ x, x = y1.alloc (.cells #[.string n1, .slice a11 m11 c11, .slice a12 m12 c12, .slice a13 m13 c13, .slice a14 m14 c14, .slice a15 m15 c15, .slice a16 m16 c16, .int .i64 r1] 25) := ⟨_, rfl⟩
  have al1 : Below y1.heap.size y1 x1 := by rw [hxe1]; exact (Below.refl _ _).alloc (Nat.le_refl _) _
  have HX1 := Lib.hid (HY1.out.trans (al1.mono HY1.out.size))
  have G1 := Lib.hid al1
  have D1 := Lib.hid (show x1.heap[y1.heap.size]? = some (.cells #[.string n1, .slice a11 m11 c11, .slice a12 m12 c12, .slice a13 m13 c13, .slice a14 m14 c14, .slice a15 m15 c15, .slice a16 m16 c16, .int .i64 r1] 25) from by rw [hxe1]; exact World.alloc_heap_new y1 _)
  have HXE1 := Lib.hid hxe1
  clear hV1 hb1 hxe1 al1
  go_wp2_with fail
  rw [← HXE1.out]
  refine (HP2.out _ (HM.out.later HX1.out)).mono ?_
  rintro e y2 ⟨⟨u2, rfl, hV2⟩, hb2⟩
  have HV2 := Lib.hid hV2
  obtain ⟨n2, a21, a22, a23, a24, a25, a26, m21, m22, m23, m24, m25, m26, c21, c22, c23, c24, c25, c26, r2, rfl⟩ := unit_parts hV2
  have HY2 := Lib.hid (HX1.out.trans (hb2.mono HX1.out.size))
  obtain ⟨x2, hxe2⟩ : ∃ x, x = y2.alloc (.cells #[.string n2, .slice a21 m21 c21, .slice a22 m22 c22, .slice a23 m23 c23, .slice a24 m24 c24, .slice a25 m25 c25, .slice a26 m26 c26, .int .i64 r2] 25) := ⟨_, rfl⟩
  have al2 : Below y2.heap.size y2 x2 := by rw [hxe2]; exact (Below.refl _ _).alloc (Nat.le_refl _) _
  have HX2 := Lib.hid (HY2.out.trans (al2.mono HY2.out.size))
  have G2 := Lib.hid al2
  have D2 := Lib.hid (show x2.heap[y2.heap.size]? = some (.cells #[.string n2, .slice a21 m21 c21, .slice a22 m22 c22, .slice a23 m23 c23, .slice a24 m24 c24, .slice a25 m25 c25, .slice a26 m26 c26, .int .i64 r2] 25) from by rw [hxe2]; exact World.alloc_heap_new y2 _)
  have st2 : Below x1.heap.size x1 x2 := hb2.trans (al2.mono hb2.size)
  have G1 := Lib.hid (G1.out.trans (st2.mono G1.out.size))
  have D1 := Lib.hid ((st2.block _ (lt_of_heap D1.out)).trans D1.out)
  clear st2
  have HXE2 := Lib.hid hxe2
  clear hV2 hb2 hxe2 al2
  go_wp2_with fail
  rw [← HXE2.out]
  refine (HP3.out _ (HM.out.later HX2.out)).mono ?_
  rintro e y3 ⟨⟨u3, rfl, hV3⟩, hb3⟩
  have HV3 := Lib.hid hV3
  obtain ⟨n3, a31, a32, a33, a34, a35, a36, m31, m32, m33, m34, m35, m36, c31, c32, c33, c34, c35, c36, r3, rfl⟩ := unit_parts hV3
  have HY3 := Lib.hid (HX2.out.trans (hb3.mono HX2.out.size))
  obtain ⟨x3, hxe3⟩ : ∃ x, x = y3.alloc (.cells #[.string n3, .slice a31 m31 c31, .slice a32 m32 c32, .slice a33 m33 c33, .slice a34 m34 c34, .slice a35 m35 c35, .slice a36 m36 c36, .int .i64 r3] 25) := ⟨_, rfl⟩
  have al3 : Below y3.heap.size y3 x3 := by rw [hxe3]; exact (Below.refl _ _).alloc (Nat.le_refl _) _
  have HX3 := Lib.hid (HY3.out.trans (al3.mono HY3.out.size))
  have G3 := Lib.hid al3
  have D3 := Lib.hid (show x3.heap[y3.heap.size]? = some (.cells #[.string n3, .slice a31 m31 c31, .slice a32 m32 c32, .slice a33 m33 c33, .slice a34 m34 c34, .slice a35 m35 c35, .slice a36 m36 c36, .int .i64 r3] 25) from by rw [hxe3]; exact World.alloc_heap_new y3 _)
  have st3 : Below x2.heap.size x2 x3 := hb3.trans (al3.mono hb3.size)
  have G1 := Lib.hid (G1.out.trans (st3.mono G1.out.size))
  have D1 := Lib.hid ((st3.block _ (lt_of_heap D1.out)).trans D1.out)
  have G2 := Lib.hid (G2.out.trans (st3.mono G2.out.size))
  have D2 := Lib.hid ((st3.block _ (lt_of_heap D2.out)).trans D2.out)
  clear st3
  have HXE3 := Lib.hid hxe3
  clear hV3 hb3 hxe3 al3
  go_wp2_with fail
  rw [← HXE3.out]
  refine (HP4.out _ (HM.out.later HX3.out)).mono ?_
  rintro e y4 ⟨⟨u4, rfl, hV4⟩, hb4⟩
  have HV4 := Lib.hid hV4
  obtain ⟨n4, a41, a42, a43, a44, a45, a46, m41, m42, m43, m44, m45, m46, c41, c42, c43, c44, c45, c46, r4, rfl⟩ := unit_parts hV4
  have HY4 := Lib.hid (HX3.out.trans (hb4.mono HX3.out.size))
  obtain ⟨x4, hxe4⟩ : ∃ x, x = y4.alloc (.cells #[.string n4, .slice a41 m41 c41, .slice a42 m42 c42, .slice a43 m43 c43, .slice a44 m44 c44, .slice a45 m45 c45, .slice a46 m46 c46, .int .i64 r4] 25) := ⟨_, rfl⟩
  have al4 : Below y4.heap.size y4 x4 := by rw [hxe4]; exact (Below.refl _ _).alloc (Nat.le_refl _) _
  have HX4 := Lib.hid (HY4.out.trans (al4.mono HY4.out.size))
  have G4 := Lib.hid al4
  have D4 := Lib.hid (show x4.heap[y4.heap.size]? = some (.cells #[.string n4, .slice a41 m41 c41, .slice a42 m42 c42, .slice a43 m43 c43, .slice a44 m44 c44, .slice a45 m45 c45, .slice a46 m46 c46, .int .i64 r4] 25) from by rw [hxe4]; exact World.alloc_heap_new y4 _)
  have st4 : Below x3.heap.size x3 x4 := hb4.trans (al4.mono hb4.size)
  have G1 := Lib.hid (G1.out.trans (st4.mono G1.out.size))
  have D1 := Lib.hid ((st4.block _ (lt_of_heap D1.out)).trans D1.out)
  have G2 := Lib.hid (G2.out.trans (st4.mono G2.out.size))
  have D2 := Lib.hid ((st4.block _ (lt_of_heap D2.out)).trans D2.out)
  have G3 := Lib.hid (G3.out.trans (st4.mono G3.out.size))
  have D3 := Lib.hid ((st4.block _ (lt_of_heap D3.out)).trans D3.out)
  clear st4
  have HXE4 := Lib.hid hxe4
  clear hV4 hb4 hxe4 al4
  go_wp2_with fail
  rw [← HXE4.out]
  have he : (e3 == 0) = (eB == 0) := by rw [Bool.eq_iff_iff, beq_iff_eq, beq_iff_eq]; exact HQ3.out
  have hPl := fun (W : World) (v : Value) (u : UD) (h : UnitV W v u) => plain_any W v u h
  have hSA := fun (W : World) (x y : Value) (h1 : UnitV W x uA) (h2 : UnitV W y uA) => sameunit_any W x y uA uA h1 h2 HF1.out HF1.out
  have hSB := fun (W : World) (x y : Value) (h1 : UnitV W x uB) (h2 : UnitV W y uB) => sameunit_any W x y uB uB h1 h2 HF3.out HF3.out
  simp only [sameU_refl] at hSA hSB
  have HPl := Lib.hid hPl
  have HSA := Lib.hid hSA
  have HSB := Lib.hid hSB
  have HKeep := Lib.hid (fun (W : World) (hW : Below x4.heap.size x4 W) => four_cells (w := W) (T := 25) ((hW.block _ (lt_of_heap D1.out)).trans D1.out) ((hW.block _ (lt_of_heap D2.out)).trans D2.out) ((hW.block _ (lt_of_heap D3.out)).trans D3.out) ((hW.block _ (lt_of_heap D4.out)).trans D4.out))
  clear hPl hSA hSB
  have sN : x4.cell? ⟨y1.heap.size, 0, none⟩ = some (.string n1) ∧ x4.cell? ⟨y1.heap.size, 1, none⟩ = some (.slice a11 m11 c11) ∧ x4.cell? ⟨y1.heap.size, 2, none⟩ = some (.slice a12 m12 c12) ∧ x4.cell? ⟨y1.heap.size, 3, none⟩ = some (.slice a13 m13 c13) ∧ x4.cell? ⟨y1.heap.size, 4, none⟩ = some (.slice a14 m14 c14) ∧ x4.cell? ⟨y1.heap.size, 5, none⟩ = some (.slice a15 m15 c15) ∧ x4.cell? ⟨y1.heap.size, 6, none⟩ = some (.slice a16 m16 c16) ∧ x4.cell? ⟨y1.heap.size, 7, none⟩ = some (.int .i64 r1) ∧ x4.cell? ⟨y2.heap.size, 0, none⟩ = some (.string n2) ∧ x4.cell? ⟨y2.heap.size, 1, none⟩ = some (.slice a21 m21 c21) ∧ x4.cell? ⟨y2.heap.size, 2, none⟩ = some (.slice a22 m22 c22) ∧ x4.cell? ⟨y2.heap.size, 3, none⟩ = some (.slice a23 m23 c23) ∧ x4.cell? ⟨y2.heap.size, 4, none⟩ = some (.slice a24 m24 c24) ∧ x4.cell? ⟨y2.heap.size, 5, none⟩ = some (.slice a25 m25 c25) ∧ x4.cell? ⟨y2.heap.size, 6, none⟩ = some (.slice a26 m26 c26) ∧ x4.cell? ⟨y2.heap.size, 7, none⟩ = some (.int .i64 r2) ∧ x4.cell? ⟨y3.heap.size, 0, none⟩ = some (.string n3) ∧ x4.cell? ⟨y3.heap.size, 1, none⟩ = some (.slice a31 m31 c31) ∧ x4.cell? ⟨y3.heap.size, 2, none⟩ = some (.slice a32 m32 c32) ∧ x4.cell? ⟨y3.heap.size, 3, none⟩ = some (.slice a33 m33 c33) ∧ x4.cell? ⟨y3.heap.size, 4, none⟩ = some (.slice a34 m34 c34) ∧ x4.cell? ⟨y3.heap.size, 5, none⟩ = some (.slice a35 m35 c35) ∧ x4.cell? ⟨y3.heap.size, 6, none⟩ = some (.slice a36 m36 c36) ∧ x4.cell? ⟨y3.heap.size, 7, none⟩ = some (.int .i64 r3) ∧ x4.cell? ⟨y4.heap.size, 0, none⟩ = some (.string n4) ∧ x4.cell? ⟨y4.heap.size, 1, none⟩ = some (.slice a41 m41 c41) ∧ x4.cell? ⟨y4.heap.size, 2, none⟩ = some (.slice a42 m42 c42) ∧ x4.cell? ⟨y4.heap.size, 3, none⟩ = some (.slice a43 m43 c43) ∧ x4.cell? ⟨y4.heap.size, 4, none⟩ = some (.slice a44 m44 c44) ∧ x4.cell? ⟨y4.heap.size, 5, none⟩ = some (.slice a45 m45 c45) ∧ x4.cell? ⟨y4.heap.size, 6, none⟩ = some (.slice a46 m46 c46) ∧ x4.cell? ⟨y4.heap.size, 7, none⟩ = some (.int .i64 r4) := HKeep.out x4 (Below.refl _ _)
  go_region_held3 (fun W : World => W.cell? ⟨y1.heap.size, 0, none⟩ = some (.string n1) ∧ W.cell? ⟨y1.heap.size, 1, none⟩ = some (.slice a11 m11 c11) ∧ W.cell? ⟨y1.heap.size, 2, none⟩ = some (.slice a12 m12 c12) ∧ W.cell? ⟨y1.heap.size, 3, none⟩ = some (.slice a13 m13 c13) ∧ W.cell? ⟨y1.heap.size, 4, none⟩ = some (.slice a14 m14 c14) ∧ W.cell? ⟨y1.heap.size, 5, none⟩ = some (.slice a15 m15 c15) ∧ W.cell? ⟨y1.heap.size, 6, none⟩ = some (.slice a16 m16 c16) ∧ W.cell? ⟨y1.heap.size, 7, none⟩ = some (.int .i64 r1) ∧ W.cell? ⟨y2.heap.size, 0, none⟩ = some (.string n2) ∧ W.cell? ⟨y2.heap.size, 1, none⟩ = some (.slice a21 m21 c21) ∧ W.cell? ⟨y2.heap.size, 2, none⟩ = some (.slice a22 m22 c22) ∧ W.cell? ⟨y2.heap.size, 3, none⟩ = some (.slice a23 m23 c23) ∧ W.cell? ⟨y2.heap.size, 4, none⟩ = some (.slice a24 m24 c24) ∧ W.cell? ⟨y2.heap.size, 5, none⟩ = some (.slice a25 m25 c25) ∧ W.cell? ⟨y2.heap.size, 6, none⟩ = some (.slice a26 m26 c26) ∧ W.cell? ⟨y2.heap.size, 7, none⟩ = some (.int .i64 r2) ∧ W.cell? ⟨y3.heap.size, 0, none⟩ = some (.string n3) ∧ W.cell? ⟨y3.heap.size, 1, none⟩ = some (.slice a31 m31 c31) ∧ W.cell? ⟨y3.heap.size, 2, none⟩ = some (.slice a32 m32 c32) ∧ W.cell? ⟨y3.heap.size, 3, none⟩ = some (.slice a33 m33 c33) ∧ W.cell? ⟨y3.heap.size, 4, none⟩ = some (.slice a34 m34 c34) ∧ W.cell? ⟨y3.heap.size, 5, none⟩ = some (.slice a35 m35 c35) ∧ W.cell? ⟨y3.heap.size, 6, none⟩ = some (.slice a36 m36 c36) ∧ W.cell? ⟨y3.heap.size, 7, none⟩ = some (.int .i64 r3) ∧ W.cell? ⟨y4.heap.size, 0, none⟩ = some (.string n4) ∧ W.cell? ⟨y4.heap.size, 1, none⟩ = some (.slice a41 m41 c41) ∧ W.cell? ⟨y4.heap.size, 2, none⟩ = some (.slice a42 m42 c42) ∧ W.cell? ⟨y4.heap.size, 3, none⟩ = some (.slice a43 m43 c43) ∧ W.cell? ⟨y4.heap.size, 4, none⟩ = some (.slice a44 m44 c44) ∧ W.cell? ⟨y4.heap.size, 5, none⟩ = some (.slice a45 m45 c45) ∧ W.cell? ⟨y4.heap.size, 6, none⟩ = some (.slice a46 m46 c46) ∧ W.cell? ⟨y4.heap.size, 7, none⟩ = some (.int .i64 r4)) (first | exact sN | go_keep) (first
    | (have _g := K5.out; clear _g; go_at_call 9; refine (HSB.out _ _ _ ((HV3.out.later G3.out).later (show Below x4.heap.size x4 _ from (by first | exact K5.out | exact K5.out.drew))) ((HV4.out.later G4.out).later (show Below x4.heap.size x4 _ from (by first | exact K5.out | exact K5.out.drew)))).mono ?_; rintro e k6 ⟨rfl, hk6⟩; have K6 := Lib.hid (show Below x4.heap.size x4 k6 from Below.trans (show Below x4.heap.size x4 _ from (by first | exact K5.out | exact K5.out.drew)) (hk6.mono (Below.size (show Below x4.heap.size x4 _ from (by first | exact K5.out | exact K5.out.drew))))); have sN := (show k6.cell? ⟨y1.heap.size, 0, none⟩ = some (.string n1) ∧ k6.cell? ⟨y1.heap.size, 1, none⟩ = some (.slice a11 m11 c11) ∧ k6.cell? ⟨y1.heap.size, 2, none⟩ = some (.slice a12 m12 c12) ∧ k6.cell? ⟨y1.heap.size, 3, none⟩ = some (.slice a13 m13 c13) ∧ k6.cell? ⟨y1.heap.size, 4, none⟩ = some (.slice a14 m14 c14) ∧ k6.cell? ⟨y1.heap.size, 5, none⟩ = some (.slice a15 m15 c15) ∧ k6.cell? ⟨y1.heap.size, 6, none⟩ = some (.slice a16 m16 c16) ∧ k6.cell? ⟨y1.heap.size, 7, none⟩ = some (.int .i64 r1) ∧ k6.cell? ⟨y2.heap.size, 0, none⟩ = some (.string n2) ∧ k6.cell? ⟨y2.heap.size, 1, none⟩ = some (.slice a21 m21 c21) ∧ k6.cell? ⟨y2.heap.size, 2, none⟩ = some (.slice a22 m22 c22) ∧ k6.cell? ⟨y2.heap.size, 3, none⟩ = some (.slice a23 m23 c23) ∧ k6.cell? ⟨y2.heap.size, 4, none⟩ = some (.slice a24 m24 c24) ∧ k6.cell? ⟨y2.heap.size, 5, none⟩ = some (.slice a25 m25 c25) ∧ k6.cell? ⟨y2.heap.size, 6, none⟩ = some (.slice a26 m26 c26) ∧ k6.cell? ⟨y2.heap.size, 7, none⟩ = some (.int .i64 r2) ∧ k6.cell? ⟨y3.heap.size, 0, none⟩ = some (.string n3) ∧ k6.cell? ⟨y3.heap.size, 1, none⟩ = some (.slice a31 m31 c31) ∧ k6.cell? ⟨y3.heap.size, 2, none⟩ = some (.slice a32 m32 c32) ∧ k6.cell? ⟨y3.heap.size, 3, none⟩ = some (.slice a33 m33 c33) ∧ k6.cell? ⟨y3.heap.size, 4, none⟩ = some (.slice a34 m34 c34) ∧ k6.cell? ⟨y3.heap.size, 5, none⟩ = some (.slice a35 m35 c35) ∧ k6.cell? ⟨y3.heap.size, 6, none⟩ = some (.slice a36 m36 c36) ∧ k6.cell? ⟨y3.heap.size, 7, none⟩ = some (.int .i64 r3) ∧ k6.cell? ⟨y4.heap.size, 0, none⟩ = some (.string n4) ∧ k6.cell? ⟨y4.heap.size, 1, none⟩ = some (.slice a41 m41 c41) ∧ k6.cell? ⟨y4.heap.size, 2, none⟩ = some (.slice a42 m42 c42) ∧ k6.cell? ⟨y4.heap.size, 3, none⟩ = some (.slice a43 m43 c43) ∧ k6.cell? ⟨y4.heap.size, 4, none⟩ = some (.slice a44 m44 c44) ∧ k6.cell? ⟨y4.heap.size, 5, none⟩ = some (.slice a45 m45 c45) ∧ k6.cell? ⟨y4.heap.size, 6, none⟩ = some (.slice a46 m46 c46) ∧ k6.cell? ⟨y4.heap.size, 7, none⟩ = some (.int .i64 r4) from HKeep.out k6 K6.out); clear hk6)
    | (have _g := K4.out; clear _g; go_at_call 10; refine (HPl.out _ _ _ ((HV4.out.later G4.out).later (show Below x4.heap.size x4 _ from (by first | exact K4.out | exact K4.out.drew)))).mono ?_; rintro e k5 ⟨rfl, hk5⟩; have K5 := Lib.hid (show Below x4.heap.size x4 k5 from Below.trans (show Below x4.heap.size x4 _ from (by first | exact K4.out | exact K4.out.drew)) (hk5.mono (Below.size (show Below x4.heap.size x4 _ from (by first | exact K4.out | exact K4.out.drew))))); have sN := (show k5.cell? ⟨y1.heap.size, 0, none⟩ = some (.string n1) ∧ k5.cell? ⟨y1.heap.size, 1, none⟩ = some (.slice a11 m11 c11) ∧ k5.cell? ⟨y1.heap.size, 2, none⟩ = some (.slice a12 m12 c12) ∧ k5.cell? ⟨y1.heap.size, 3, none⟩ = some (.slice a13 m13 c13) ∧ k5.cell? ⟨y1.heap.size, 4, none⟩ = some (.slice a14 m14 c14) ∧ k5.cell? ⟨y1.heap.size, 5, none⟩ = some (.slice a15 m15 c15) ∧ k5.cell? ⟨y1.heap.size, 6, none⟩ = some (.slice a16 m16 c16) ∧ k5.cell? ⟨y1.heap.size, 7, none⟩ = some (.int .i64 r1) ∧ k5.cell? ⟨y2.heap.size, 0, none⟩ = some (.string n2) ∧ k5.cell? ⟨y2.heap.size, 1, none⟩ = some (.slice a21 m21 c21) ∧ k5.cell? ⟨y2.heap.size, 2, none⟩ = some (.slice a22 m22 c22) ∧ k5.cell? ⟨y2.heap.size, 3, none⟩ = some (.slice a23 m23 c23) ∧ k5.cell? ⟨y2.heap.size, 4, none⟩ = some (.slice a24 m24 c24) ∧ k5.cell? ⟨y2.heap.size, 5, none⟩ = some (.slice a25 m25 c25) ∧ k5.cell? ⟨y2.heap.size, 6, none⟩ = some (.slice a26 m26 c26) ∧ k5.cell? ⟨y2.heap.size, 7, none⟩ = some (.int .i64 r2) ∧ k5.cell? ⟨y3.heap.size, 0, none⟩ = some (.string n3) ∧ k5.cell? ⟨y3.heap.size, 1, none⟩ = some (.slice a31 m31 c31) ∧ k5.cell? ⟨y3.heap.size, 2, none⟩ = some (.slice a32 m32 c32) ∧ k5.cell? ⟨y3.heap.size, 3, none⟩ = some (.slice a33 m33 c33) ∧ k5.cell? ⟨y3.heap.size, 4, none⟩ = some (.slice a34 m34 c34) ∧ k5.cell? ⟨y3.heap.size, 5, none⟩ = some (.slice a35 m35 c35) ∧ k5.cell? ⟨y3.heap.size, 6, none⟩ = some (.slice a36 m36 c36) ∧ k5.cell? ⟨y3.heap.size, 7, none⟩ = some (.int .i64 r3) ∧ k5.cell? ⟨y4.heap.size, 0, none⟩ = some (.string n4) ∧ k5.cell? ⟨y4.heap.size, 1, none⟩ = some (.slice a41 m41 c41) ∧ k5.cell? ⟨y4.heap.size, 2, none⟩ = some (.slice a42 m42 c42) ∧ k5.cell? ⟨y4.heap.size, 3, none⟩ = some (.slice a43 m43 c43) ∧ k5.cell? ⟨y4.heap.size, 4, none⟩ = some (.slice a44 m44 c44) ∧ k5.cell? ⟨y4.heap.size, 5, none⟩ = some (.slice a45 m45 c45) ∧ k5.cell? ⟨y4.heap.size, 6, none⟩ = some (.slice a46 m46 c46) ∧ k5.cell? ⟨y4.heap.size, 7, none⟩ = some (.int .i64 r4) from HKeep.out k5 K5.out); clear hk5)
    | (have _g := K3.out; clear _g; go_at_call 10; refine (HPl.out _ _ _ ((HV3.out.later G3.out).later (show Below x4.heap.size x4 _ from (by first | exact K3.out | exact K3.out.drew)))).mono ?_; rintro e k4 ⟨rfl, hk4⟩; have K4 := Lib.hid (show Below x4.heap.size x4 k4 from Below.trans (show Below x4.heap.size x4 _ from (by first | exact K3.out | exact K3.out.drew)) (hk4.mono (Below.size (show Below x4.heap.size x4 _ from (by first | exact K3.out | exact K3.out.drew))))); have sN := (show k4.cell? ⟨y1.heap.size, 0, none⟩ = some (.string n1) ∧ k4.cell? ⟨y1.heap.size, 1, none⟩ = some (.slice a11 m11 c11) ∧ k4.cell? ⟨y1.heap.size, 2, none⟩ = some (.slice a12 m12 c12) ∧ k4.cell? ⟨y1.heap.size, 3, none⟩ = some (.slice a13 m13 c13) ∧ k4.cell? ⟨y1.heap.size, 4, none⟩ = some (.slice a14 m14 c14) ∧ k4.cell? ⟨y1.heap.size, 5, none⟩ = some (.slice a15 m15 c15) ∧ k4.cell? ⟨y1.heap.size, 6, none⟩ = some (.slice a16 m16 c16) ∧ k4.cell? ⟨y1.heap.size, 7, none⟩ = some (.int .i64 r1) ∧ k4.cell? ⟨y2.heap.size, 0, none⟩ = some (.string n2) ∧ k4.cell? ⟨y2.heap.size, 1, none⟩ = some (.slice a21 m21 c21) ∧ k4.cell? ⟨y2.heap.size, 2, none⟩ = some (.slice a22 m22 c22) ∧ k4.cell? ⟨y2.heap.size, 3, none⟩ = some (.slice a23 m23 c23) ∧ k4.cell? ⟨y2.heap.size, 4, none⟩ = some (.slice a24 m24 c24) ∧ k4.cell? ⟨y2.heap.size, 5, none⟩ = some (.slice a25 m25 c25) ∧ k4.cell? ⟨y2.heap.size, 6, none⟩ = some (.slice a26 m26 c26) ∧ k4.cell? ⟨y2.heap.size, 7, none⟩ = some (.int .i64 r2) ∧ k4.cell? ⟨y3.heap.size, 0, none⟩ = some (.string n3) ∧ k4.cell? ⟨y3.heap.size, 1, none⟩ = some (.slice a31 m31 c31) ∧ k4.cell? ⟨y3.heap.size, 2, none⟩ = some (.slice a32 m32 c32) ∧ k4.cell? ⟨y3.heap.size, 3, none⟩ = some (.slice a33 m33 c33) ∧ k4.cell? ⟨y3.heap.size, 4, none⟩ = some (.slice a34 m34 c34) ∧ k4.cell? ⟨y3.heap.size, 5, none⟩ = some (.slice a35 m35 c35) ∧ k4.cell? ⟨y3.heap.size, 6, none⟩ = some (.slice a36 m36 c36) ∧ k4.cell? ⟨y3.heap.size, 7, none⟩ = some (.int .i64 r3) ∧ k4.cell? ⟨y4.heap.size, 0, none⟩ = some (.string n4) ∧ k4.cell? ⟨y4.heap.size, 1, none⟩ = some (.slice a41 m41 c41) ∧ k4.cell? ⟨y4.heap.size, 2, none⟩ = some (.slice a42 m42 c42) ∧ k4.cell? ⟨y4.heap.size, 3, none⟩ = some (.slice a43 m43 c43) ∧ k4.cell? ⟨y4.heap.size, 4, none⟩ = some (.slice a44 m44 c44) ∧ k4.cell? ⟨y4.heap.size, 5, none⟩ = some (.slice a45 m45 c45) ∧ k4.cell? ⟨y4.heap.size, 6, none⟩ = some (.slice a46 m46 c46) ∧ k4.cell? ⟨y4.heap.size, 7, none⟩ = some (.int .i64 r4) from HKeep.out k4 K4.out); clear hk4)
    | (have _g := K2.out; clear _g; go_at_call 9; refine (HSA.out _ _ _ ((HV1.out.later G1.out).later (show Below x4.heap.size x4 _ from (by first | exact K2.out | exact K2.out.drew))) ((HV2.out.later G2.out).later (show Below x4.heap.size x4 _ from (by first | exact K2.out | exact K2.out.drew)))).mono ?_; rintro e k3 ⟨rfl, hk3⟩; have K3 := Lib.hid (show Below x4.heap.size x4 k3 from Below.trans (show Below x4.heap.size x4 _ from (by first | exact K2.out | exact K2.out.drew)) (hk3.mono (Below.size (show Below x4.heap.size x4 _ from (by first | exact K2.out | exact K2.out.drew))))); have sN := (show k3.cell? ⟨y1.heap.size, 0, none⟩ = some (.string n1) ∧ k3.cell? ⟨y1.heap.size, 1, none⟩ = some (.slice a11 m11 c11) ∧ k3.cell? ⟨y1.heap.size, 2, none⟩ = some (.slice a12 m12 c12) ∧ k3.cell? ⟨y1.heap.size, 3, none⟩ = some (.slice a13 m13 c13) ∧ k3.cell? ⟨y1.heap.size, 4, none⟩ = some (.slice a14 m14 c14) ∧ k3.cell? ⟨y1.heap.size, 5, none⟩ = some (.slice a15 m15 c15) ∧ k3.cell? ⟨y1.heap.size, 6, none⟩ = some (.slice a16 m16 c16) ∧ k3.cell? ⟨y1.heap.size, 7, none⟩ = some (.int .i64 r1) ∧ k3.cell? ⟨y2.heap.size, 0, none⟩ = some (.string n2) ∧ k3.cell? ⟨y2.heap.size, 1, none⟩ = some (.slice a21 m21 c21) ∧ k3.cell? ⟨y2.heap.size, 2, none⟩ = some (.slice a22 m22 c22) ∧ k3.cell? ⟨y2.heap.size, 3, none⟩ = some (.slice a23 m23 c23) ∧ k3.cell? ⟨y2.heap.size, 4, none⟩ = some (.slice a24 m24 c24) ∧ k3.cell? ⟨y2.heap.size, 5, none⟩ = some (.slice a25 m25 c25) ∧ k3.cell? ⟨y2.heap.size, 6, none⟩ = some (.slice a26 m26 c26) ∧ k3.cell? ⟨y2.heap.size, 7, none⟩ = some (.int .i64 r2) ∧ k3.cell? ⟨y3.heap.size, 0, none⟩ = some (.string n3) ∧ k3.cell? ⟨y3.heap.size, 1, none⟩ = some (.slice a31 m31 c31) ∧ k3.cell? ⟨y3.heap.size, 2, none⟩ = some (.slice a32 m32 c32) ∧ k3.cell? ⟨y3.heap.size, 3, none⟩ = some (.slice a33 m33 c33) ∧ k3.cell? ⟨y3.heap.size, 4, none⟩ = some (.slice a34 m34 c34) ∧ k3.cell? ⟨y3.heap.size, 5, none⟩ = some (.slice a35 m35 c35) ∧ k3.cell? ⟨y3.heap.size, 6, none⟩ = some (.slice a36 m36 c36) ∧ k3.cell? ⟨y3.heap.size, 7, none⟩ = some (.int .i64 r3) ∧ k3.cell? ⟨y4.heap.size, 0, none⟩ = some (.string n4) ∧ k3.cell? ⟨y4.heap.size, 1, none⟩ = some (.slice a41 m41 c41) ∧ k3.cell? ⟨y4.heap.size, 2, none⟩ = some (.slice a42 m42 c42) ∧ k3.cell? ⟨y4.heap.size, 3, none⟩ = some (.slice a43 m43 c43) ∧ k3.cell? ⟨y4.heap.size, 4, none⟩ = some (.slice a44 m44 c44) ∧ k3.cell? ⟨y4.heap.size, 5, none⟩ = some (.slice a45 m45 c45) ∧ k3.cell? ⟨y4.heap.size, 6, none⟩ = some (.slice a46 m46 c46) ∧ k3.cell? ⟨y4.heap.size, 7, none⟩ = some (.int .i64 r4) from HKeep.out k3 K3.out); clear hk3)
    | (have _g := K1.out; clear _g; go_at_call 10; refine (HPl.out _ _ _ ((HV2.out.later G2.out).later (show Below x4.heap.size x4 _ from (by first | exact K1.out | exact K1.out.drew)))).mono ?_; rintro e k2 ⟨rfl, hk2⟩; have K2 := Lib.hid (show Below x4.heap.size x4 k2 from Below.trans (show Below x4.heap.size x4 _ from (by first | exact K1.out | exact K1.out.drew)) (hk2.mono (Below.size (show Below x4.heap.size x4 _ from (by first | exact K1.out | exact K1.out.drew))))); have sN := (show k2.cell? ⟨y1.heap.size, 0, none⟩ = some (.string n1) ∧ k2.cell? ⟨y1.heap.size, 1, none⟩ = some (.slice a11 m11 c11) ∧ k2.cell? ⟨y1.heap.size, 2, none⟩ = some (.slice a12 m12 c12) ∧ k2.cell? ⟨y1.heap.size, 3, none⟩ = some (.slice a13 m13 c13) ∧ k2.cell? ⟨y1.heap.size, 4, none⟩ = some (.slice a14 m14 c14) ∧ k2.cell? ⟨y1.heap.size, 5, none⟩ = some (.slice a15 m15 c15) ∧ k2.cell? ⟨y1.heap.size, 6, none⟩ = some (.slice a16 m16 c16) ∧ k2.cell? ⟨y1.heap.size, 7, none⟩ = some (.int .i64 r1) ∧ k2.cell? ⟨y2.heap.size, 0, none⟩ = some (.string n2) ∧ k2.cell? ⟨y2.heap.size, 1, none⟩ = some (.slice a21 m21 c21) ∧ k2.cell? ⟨y2.heap.size, 2, none⟩ = some (.slice a22 m22 c22) ∧ k2.cell? ⟨y2.heap.size, 3, none⟩ = some (.slice a23 m23 c23) ∧ k2.cell? ⟨y2.heap.size, 4, none⟩ = some (.slice a24 m24 c24) ∧ k2.cell? ⟨y2.heap.size, 5, none⟩ = some (.slice a25 m25 c25) ∧ k2.cell? ⟨y2.heap.size, 6, none⟩ = some (.slice a26 m26 c26) ∧ k2.cell? ⟨y2.heap.size, 7, none⟩ = some (.int .i64 r2) ∧ k2.cell? ⟨y3.heap.size, 0, none⟩ = some (.string n3) ∧ k2.cell? ⟨y3.heap.size, 1, none⟩ = some (.slice a31 m31 c31) ∧ k2.cell? ⟨y3.heap.size, 2, none⟩ = some (.slice a32 m32 c32) ∧ k2.cell? ⟨y3.heap.size, 3, none⟩ = some (.slice a33 m33 c33) ∧ k2.cell? ⟨y3.heap.size, 4, none⟩ = some (.slice a34 m34 c34) ∧ k2.cell? ⟨y3.heap.size, 5, none⟩ = some (.slice a35 m35 c35) ∧ k2.cell? ⟨y3.heap.size, 6, none⟩ = some (.slice a36 m36 c36) ∧ k2.cell? ⟨y3.heap.size, 7, none⟩ = some (.int .i64 r3) ∧ k2.cell? ⟨y4.heap.size, 0, none⟩ = some (.string n4) ∧ k2.cell? ⟨y4.heap.size, 1, none⟩ = some (.slice a41 m41 c41) ∧ k2.cell? ⟨y4.heap.size, 2, none⟩ = some (.slice a42 m42 c42) ∧ k2.cell? ⟨y4.heap.size, 3, none⟩ = some (.slice a43 m43 c43) ∧ k2.cell? ⟨y4.heap.size, 4, none⟩ = some (.slice a44 m44 c44) ∧ k2.cell? ⟨y4.heap.size, 5, none⟩ = some (.slice a45 m45 c45) ∧ k2.cell? ⟨y4.heap.size, 6, none⟩ = some (.slice a46 m46 c46) ∧ k2.cell? ⟨y4.heap.size, 7, none⟩ = some (.int .i64 r4) from HKeep.out k2 K2.out); clear hk2)
    | (go_at_call 10; refine (HPl.out _ _ _ ((HV1.out.later G1.out).later (show Below x4.heap.size x4 _ from (by first | exact (Below.refl _ _) | exact (Below.refl _ _).drew)))).mono ?_; rintro e k1 ⟨rfl, hk1⟩; have K1 := Lib.hid (show Below x4.heap.size x4 k1 from Below.trans (show Below x4.heap.size x4 _ from (by first | exact (Below.refl _ _) | exact (Below.refl _ _).drew)) (hk1.mono (Below.size (show Below x4.heap.size x4 _ from (by first | exact (Below.refl _ _) | exact (Below.refl _ _).drew))))); have sN := (show k1.cell? ⟨y1.heap.size, 0, none⟩ = some (.string n1) ∧ k1.cell? ⟨y1.heap.size, 1, none⟩ = some (.slice a11 m11 c11) ∧ k1.cell? ⟨y1.heap.size, 2, none⟩ = some (.slice a12 m12 c12) ∧ k1.cell? ⟨y1.heap.size, 3, none⟩ = some (.slice a13 m13 c13) ∧ k1.cell? ⟨y1.heap.size, 4, none⟩ = some (.slice a14 m14 c14) ∧ k1.cell? ⟨y1.heap.size, 5, none⟩ = some (.slice a15 m15 c15) ∧ k1.cell? ⟨y1.heap.size, 6, none⟩ = some (.slice a16 m16 c16) ∧ k1.cell? ⟨y1.heap.size, 7, none⟩ = some (.int .i64 r1) ∧ k1.cell? ⟨y2.heap.size, 0, none⟩ = some (.string n2) ∧ k1.cell? ⟨y2.heap.size, 1, none⟩ = some (.slice a21 m21 c21) ∧ k1.cell? ⟨y2.heap.size, 2, none⟩ = some (.slice a22 m22 c22) ∧ k1.cell? ⟨y2.heap.size, 3, none⟩ = some (.slice a23 m23 c23) ∧ k1.cell? ⟨y2.heap.size, 4, none⟩ = some (.slice a24 m24 c24) ∧ k1.cell? ⟨y2.heap.size, 5, none⟩ = some (.slice a25 m25 c25) ∧ k1.cell? ⟨y2.heap.size, 6, none⟩ = some (.slice a26 m26 c26) ∧ k1.cell? ⟨y2.heap.size, 7, none⟩ = some (.int .i64 r2) ∧ k1.cell? ⟨y3.heap.size, 0, none⟩ = some (.string n3) ∧ k1.cell? ⟨y3.heap.size, 1, none⟩ = some (.slice a31 m31 c31) ∧ k1.cell? ⟨y3.heap.size, 2, none⟩ = some (.slice a32 m32 c32) ∧ k1.cell? ⟨y3.heap.size, 3, none⟩ = some (.slice a33 m33 c33) ∧ k1.cell? ⟨y3.heap.size, 4, none⟩ = some (.slice a34 m34 c34) ∧ k1.cell? ⟨y3.heap.size, 5, none⟩ = some (.slice a35 m35 c35) ∧ k1.cell? ⟨y3.heap.size, 6, none⟩ = some (.slice a36 m36 c36) ∧ k1.cell? ⟨y3.heap.size, 7, none⟩ = some (.int .i64 r3) ∧ k1.cell? ⟨y4.heap.size, 0, none⟩ = some (.string n4) ∧ k1.cell? ⟨y4.heap.size, 1, none⟩ = some (.slice a41 m41 c41) ∧ k1.cell? ⟨y4.heap.size, 2, none⟩ = some (.slice a42 m42 c42) ∧ k1.cell? ⟨y4.heap.size, 3, none⟩ = some (.slice a43 m43 c43) ∧ k1.cell? ⟨y4.heap.size, 4, none⟩ = some (.slice a44 m44 c44) ∧ k1.cell? ⟨y4.heap.size, 5, none⟩ = some (.slice a45 m45 c45) ∧ k1.cell? ⟨y4.heap.size, 6, none⟩ = some (.slice a46 m46 c46) ∧ k1.cell? ⟨y4.heap.size, 7, none⟩ = some (.int .i64 r4) from HKeep.out k1 K1.out); clear hk1))
  clear sN
  go_wp2_with fail
  go_ret
  exact ⟨rfl, HX4.out.trans (K6.out.mono HX4.out.size)⟩
theorem lines_law (w : World) (hm : Mx w) (a b : ByteArray) (k : Int) :
    Calls Tryd.prog 4 #[.string a, .string b, .int .i64 k] w fun e w' => e = .returned (.bool true) ∧ Below w.heap.size w w' := by
  by_cases ha : a.size ≤ 500
  · by_cases hb : b.size ≤ 500
    · exact lines_main w hm a b k ha hb
    · have hal := unit_alive w hm
      have ga : ¬ (500 : Int) < (a.size : Int) := by omega
      have gb : (500 : Int) < (b.size : Int) := by omega
      clear ha hb
      go_enter Tryd.func4, Tryd.ntmps4
      go_wp2_with fail
      refine hal.mono ?_
      rintro e w1 ⟨rfl, hb1⟩
      go_wp2_with fail
      go_ret
      exact ⟨rfl, hb1⟩
  · have hal := unit_alive w hm
    have ga : (500 : Int) < (a.size : Int) := by omega
    clear ha
    go_enter Tryd.func4, Tryd.ntmps4
    go_wp2_with fail
    refine hal.mono ?_
    rintro e w1 ⟨rfl, hb1⟩
    go_wp2_with fail
    go_ret
    exact ⟨rfl, hb1⟩
end Go.Proofs.YtmnohaefklglfaaDoor
