/- UnitParses: its walk. -/
import Derived.Test.YtmnohaefklglfaaDoorUn36
import Derived.Test.YtmnohaefklglfaaDoorUn17
import Derived.Deep.RegionHeld3
import Derived.Deep.RegionHeldLaw
namespace Go.Proofs.YtmnohaefklglfaaDoor
open Go.RowKit
set_option linter.unusedVariables false
set_option linter.unusedSimpArgs false
set_option maxRecDepth 100000

theorem unitw_parts {w : World} {v : Value} {name : List UInt8} {ls : List (List (List UInt8))} {q : Int} (h : UnitW w v name ls q) : ∃ (n : ByteArray) (a1 a2 a3 a4 a5 a6 : Option Addr) (m1 m2 m3 m4 m5 m6 c1 c2 c3 c4 c5 c6 : Nat) (r : Int), v = .agg #[.string n, .slice a1 m1 c1, .slice a2 m2 c2, .slice a3 m3 c3, .slice a4 m4 c4, .slice a5 m5 c5, .slice a6 m6 c6, .int .i64 r] := by
  obtain ⟨v0, v1, v2, v3, v4, v5, l0, l1, l2, l3, l4, l5, rfl, _, h3⟩ := h
  obtain ⟨a0, c0, rfl, _⟩ := h3.s0
  obtain ⟨a1, c1, rfl, _⟩ := h3.s1
  obtain ⟨a2, c2, rfl, _⟩ := h3.s2
  obtain ⟨a3, c3, rfl, _⟩ := h3.s3
  obtain ⟨a4, c4, rfl, _⟩ := h3.s4
  obtain ⟨a5, c5, rfl, _⟩ := h3.s5
  exact ⟨_, _, _, _, _, _, _, _, _, _, _, _, _, _, _, _, _, _, _, _, rfl⟩
theorem name_short {l : List UInt8} (h : nameL l = true) : l.length ≤ 12 := by
  unfold nameL at h
  simp only [Bool.and_eq_true, decide_eq_true_eq] at h
  exact h.1.2.1
theorem right_short {k : Nat} {r : List UInt8} (h : rightU k r = true) : r.length ≤ 40 := by
  unfold rightU at h
  split at h
  · have hn := of_decide_eq_true h
    unfold namesL at hn
    split at hn
    · exact absurd rfl hn
    · rename_i h1
      split at hn
      · rename_i h2
        unfold okP at h2
        simp only [Bool.or_eq_true, Bool.and_eq_true, decide_eq_true_eq] at h2
        rcases h2 with h2 | h2
        · exact absurd h2 h1
        · exact h2.1.1.1
      · exact absurd rfl hn
  · have := name_short h; omega
theorem good_short {name : List UInt8} {ls : List (List (List UInt8))} {r : Int} (h : GoodU name ls r) (h6 : ls.length = 6) : name.length ≤ 1000 ∧ ∀ l ∈ ls, l.length ≤ 12 ∧ ∀ y ∈ l, y.length ≤ 1000 := by
  refine ⟨by have := name_short h.name; omega, fun l hl => ?_⟩
  obtain ⟨k, hk, e⟩ := List.mem_iff_getElem.1 hl
  obtain ⟨h1, _, h3⟩ := h.each k (by omega)
  have e2 : ls.getD k [] = l := by simp [List.getD_eq_getElem?_getD, hk, e]
  rw [e2] at h1 h3
  exact ⟨by omega, fun y hy => by have := right_short (h1 y hy); omega⟩
/-- The text of a right unit, and what is parsed from it. -/
theorem text_good (name : List UInt8) (ls : List (List (List UInt8))) (r : Int) (h : GoodU name ls r) (h6 : ls.length = 6) : ∃ txt : List UInt8, txt.length ≤ 100000 ∧ parseU txt = (0, 0, ⟨name, ls, some r.toNat⟩) ∧ ∀ (W : World) (v : Value), UnitW W v name ls r → Calls Tryd.prog 11 #[v] W fun e w' => e = .returned (.string (toB txt)) ∧ Below W.heap.size W w' := by
  obtain ⟨hn, hls⟩ := good_short h h6
  obtain ⟨l0, l1, l2, l3, l4, l5, rfl⟩ : ∃ a b c d e f, ls = [a, b, c, d, e, f] := by
    match ls, h6 with
    | [a, b, c, d, e, f], _ => exact ⟨a, b, c, d, e, f, rfl⟩
  have hlo := h.low
  have hhi := h.high
  have e3 : ((r.toNat : Nat) : Int) = r := by omega
  have hd : (digU r.toNat).length ≤ 1000 := by unfold digU; simp
  refine ⟨textT name [l0, l1, l2, l3, l4, l5] (digU r.toNat), textT_len hn hls hd, parse_text (e3.symm ▸ h), fun W v hv => ?_⟩
  obtain ⟨v0, v1, v2, v3, v4, v5, k0, k1, k2, k3, k4, k5, rfl, q, hU⟩ := hv
  injection q with q0 q
  injection q with q1 q
  injection q with q2 q
  injection q with q3 q
  injection q with q4 q
  injection q with q5 q
  subst q0 q1 q2 q3 q4 q5
  exact text_any W name v0 v1 v2 v3 v4 v5 l0 l1 l2 l3 l4 l5 r (digU r.toNat) hU.s0 hU.s1 hU.s2 hU.s3 hU.s4 hU.s5 hn hls hd fun W' hW => (show Calls Tryd.prog 22 #[.int .i64 r] W' _ from e3 ▸ (itoa_small r.toNat (by omega) W').mono fun e w' hh => ⟨hh.1, by rw [← hh.2]; exact Below.refl _ _⟩)
theorem two_cells' {w : World} {b1 b2 : Nat} {v10 v11 v12 v13 v14 v15 v16 v17 v20 v21 v22 v23 v24 v25 v26 v27 : Value} {T T2 : TypeId}
    (h1 : w.heap[b1]? = some (.cells #[v10, v11, v12, v13, v14, v15, v16, v17] T)) (h2 : w.heap[b2]? = some (.cells #[v20, v21, v22, v23, v24, v25, v26, v27] T2)) : w.cell? ⟨b1, 0, none⟩ = some (v10) ∧ w.cell? ⟨b1, 1, none⟩ = some (v11) ∧ w.cell? ⟨b1, 2, none⟩ = some (v12) ∧ w.cell? ⟨b1, 3, none⟩ = some (v13) ∧ w.cell? ⟨b1, 4, none⟩ = some (v14) ∧ w.cell? ⟨b1, 5, none⟩ = some (v15) ∧ w.cell? ⟨b1, 6, none⟩ = some (v16) ∧ w.cell? ⟨b1, 7, none⟩ = some (v17) ∧ w.cell? ⟨b2, 0, none⟩ = some (v20) ∧ w.cell? ⟨b2, 1, none⟩ = some (v21) ∧ w.cell? ⟨b2, 2, none⟩ = some (v22) ∧ w.cell? ⟨b2, 3, none⟩ = some (v23) ∧ w.cell? ⟨b2, 4, none⟩ = some (v24) ∧ w.cell? ⟨b2, 5, none⟩ = some (v25) ∧ w.cell? ⟨b2, 6, none⟩ = some (v26) ∧ w.cell? ⟨b2, 7, none⟩ = some (v27) := by
  obtain ⟨p0, p1, p2, p3, p4, p5, p6, p7⟩ := box_cells h1
  obtain ⟨q0, q1, q2, q3, q4, q5, q6, q7⟩ := box_cells h2
  exact ⟨p0, p1, p2, p3, p4, p5, p6, p7, q0, q1, q2, q3, q4, q5, q6, q7⟩
theorem three_cells' {w : World} {b1 b2 b3 : Nat} {v10 v11 v12 v13 v14 v15 v16 v17 v20 v21 v22 v23 v24 v25 v26 v27 v30 v31 v32 v33 v34 v35 v36 v37 : Value} {T T2 T3 : TypeId}
    (h1 : w.heap[b1]? = some (.cells #[v10, v11, v12, v13, v14, v15, v16, v17] T)) (h2 : w.heap[b2]? = some (.cells #[v20, v21, v22, v23, v24, v25, v26, v27] T2)) (h3 : w.heap[b3]? = some (.cells #[v30, v31, v32, v33, v34, v35, v36, v37] T3)) : w.cell? ⟨b1, 0, none⟩ = some (v10) ∧ w.cell? ⟨b1, 1, none⟩ = some (v11) ∧ w.cell? ⟨b1, 2, none⟩ = some (v12) ∧ w.cell? ⟨b1, 3, none⟩ = some (v13) ∧ w.cell? ⟨b1, 4, none⟩ = some (v14) ∧ w.cell? ⟨b1, 5, none⟩ = some (v15) ∧ w.cell? ⟨b1, 6, none⟩ = some (v16) ∧ w.cell? ⟨b1, 7, none⟩ = some (v17) ∧ w.cell? ⟨b2, 0, none⟩ = some (v20) ∧ w.cell? ⟨b2, 1, none⟩ = some (v21) ∧ w.cell? ⟨b2, 2, none⟩ = some (v22) ∧ w.cell? ⟨b2, 3, none⟩ = some (v23) ∧ w.cell? ⟨b2, 4, none⟩ = some (v24) ∧ w.cell? ⟨b2, 5, none⟩ = some (v25) ∧ w.cell? ⟨b2, 6, none⟩ = some (v26) ∧ w.cell? ⟨b2, 7, none⟩ = some (v27) ∧ w.cell? ⟨b3, 0, none⟩ = some (v30) ∧ w.cell? ⟨b3, 1, none⟩ = some (v31) ∧ w.cell? ⟨b3, 2, none⟩ = some (v32) ∧ w.cell? ⟨b3, 3, none⟩ = some (v33) ∧ w.cell? ⟨b3, 4, none⟩ = some (v34) ∧ w.cell? ⟨b3, 5, none⟩ = some (v35) ∧ w.cell? ⟨b3, 6, none⟩ = some (v36) ∧ w.cell? ⟨b3, 7, none⟩ = some (v37) := by
  obtain ⟨p0, p1, p2, p3, p4, p5, p6, p7⟩ := box_cells h1
  obtain ⟨q0, q1, q2, q3, q4, q5, q6, q7⟩ := box_cells h2
  obtain ⟨r0, r1, r2, r3, r4, r5, r6, r7⟩ := box_cells h3
  exact ⟨p0, p1, p2, p3, p4, p5, p6, p7, q0, q1, q2, q3, q4, q5, q6, q7, r0, r1, r2, r3, r4, r5, r6, r7⟩
set_option maxHeartbeats 16000000 in
theorem parses_main (w : World) (hm : Mx w) (s : ByteArray) (hs : s.size ≤ 1000) :
    Calls Tryd.prog 3 #[.string s] w fun e w' => e = .returned (.bool true) ∧ Below w.heap.size w w' := by
  have hal := unit_alive w hm
  have zl : s.data.toList.length = s.size := (Lib.size_eq s).symm
  have P1 := parse_str s s.data.toList rfl (by omega)
  have P2 := fun W => refparse_any W s hs
  have hfew := lists_few s.data.toList
  have hpg := parse_good s.data.toList
  have h6 := (UOk.parse s.data.toList).six
  obtain ⟨PA, hPA⟩ : ∃ PA, parseU s.data.toList = PA := ⟨_, rfl⟩
  obtain ⟨pe, pn, pu⟩ := PA
  simp only [hPA] at P1 P2 hfew hpg h6
  have gs : ¬ (1000 : Int) < (s.size : Int) := by omega
  have hsm := fun (W : World) (x y : Value) (g1 : UnitW W x pu.name pu.ls (retU pu)) (g2 : UnitW W y pu.name pu.ls (retU pu)) => by
    have := samew_any W x y pu.name pu.name pu.ls pu.ls (retU pu) (retU pu) g1 g2 hfew hfew
    rw [decide_eq_true rfl, decide_eq_true rfl, decide_eq_true rfl] at this
    exact this
  have HP1 := Lib.hid P1
  have HP2 := Lib.hid P2
  have HM := Lib.hid hm
  have HSame := Lib.hid hsm
  have HPg := Lib.hid hpg
  have H6 := Lib.hid h6
  clear P1 P2 hm hfew hpg h6 hPA zl hs hsm
  go_enter Tryd.func3, Tryd.ntmps3
  go_wp2_with fail
  refine hal.mono ?_
  rintro e w1 ⟨rfl, hb1⟩
  clear hal
  have HB1 := Lib.hid hb1
  clear hb1
  go_wp2_with fail
  refine (HP1.out _ (HM.out.later HB1.out)).mono ?_
  rintro e y1 ⟨⟨u1, rfl, hV1⟩, hb1⟩
  have HV1 := Lib.hid hV1.w
  obtain ⟨n1, a11, a12, a13, a14, a15, a16, m11, m12, m13, m14, m15, m16, c11, c12, c13, c14, c15, c16, r1, rfl⟩ := unit_parts hV1
  have HY1 := Lib.hid (HB1.out.trans (hb1.mono HB1.out.size))
  obtain ⟨x1, hx1⟩ : ∃ x, x = y1.alloc (.cells #[.string n1, .slice a11 m11 c11, .slice a12 m12 c12, .slice a13 m13 c13, .slice a14 m14 c14, .slice a15 m15 c15, .slice a16 m16 c16, .int .i64 r1] 25) := ⟨_, rfl⟩
  have al1 : Below y1.heap.size y1 x1 := by rw [hx1]; exact (Below.refl _ _).alloc (Nat.le_refl _) _
  have HX1 := Lib.hid (HY1.out.trans (al1.mono HY1.out.size))
  have HV1 := Lib.hid (HV1.out.later al1)
  have D1 := Lib.hid (show x1.heap[y1.heap.size]? = some (.cells #[.string n1, .slice a11 m11 c11, .slice a12 m12 c12, .slice a13 m13 c13, .slice a14 m14 c14, .slice a15 m15 c15, .slice a16 m16 c16, .int .i64 r1] 25) from by rw [hx1]; exact World.alloc_heap_new y1 _)
  have HXE1 := Lib.hid hx1
  clear hV1 hb1 hx1 al1
  go_wp2_with fail
  rw [← HXE1.out]
  refine (HP2.out x1).mono ?_
  rintro e y2 ⟨⟨u2, rfl, hV2⟩, hb2⟩
  have HV2 := Lib.hid hV2
  obtain ⟨n2, a21, a22, a23, a24, a25, a26, m21, m22, m23, m24, m25, m26, c21, c22, c23, c24, c25, c26, r2, rfl⟩ := unitw_parts hV2
  have HY2 := Lib.hid (HX1.out.trans (hb2.mono HX1.out.size))
  obtain ⟨x2, hx2⟩ : ∃ x, x = y2.alloc (.cells #[.string n2, .slice a21 m21 c21, .slice a22 m22 c22, .slice a23 m23 c23, .slice a24 m24 c24, .slice a25 m25 c25, .slice a26 m26 c26, .int .i64 r2] 31) := ⟨_, rfl⟩
  have al2 : Below y2.heap.size y2 x2 := by rw [hx2]; exact (Below.refl _ _).alloc (Nat.le_refl _) _
  have st2 : Below x1.heap.size x1 x2 := hb2.trans (al2.mono hb2.size)
  have HX2 := Lib.hid (HX1.out.trans (st2.mono HX1.out.size))
  have HV1 := Lib.hid (HV1.out.later st2)
  have HV2 := Lib.hid (HV2.out.later al2)
  have D1 := Lib.hid ((st2.block _ (lt_of_heap D1.out)).trans D1.out)
  have D2 := Lib.hid (show x2.heap[y2.heap.size]? = some (.cells #[.string n2, .slice a21 m21 c21, .slice a22 m22 c22, .slice a23 m23 c23, .slice a24 m24 c24, .slice a25 m25 c25, .slice a26 m26 c26, .int .i64 r2] 31) from by rw [hx2]; exact World.alloc_heap_new y2 _)
  have HXE2 := Lib.hid hx2
  clear hV2 hb2 hx2 al2 st2
  have HKeep := Lib.hid (fun (W : World) (hW : Below x2.heap.size x2 W) => two_cells' (w := W) (T := 25) (T2 := 31) ((hW.block _ (lt_of_heap D1.out)).trans D1.out) ((hW.block _ (lt_of_heap D2.out)).trans D2.out))
  have HPl := Lib.hid (fun (W : World) (hW : Below x2.heap.size x2 W) => plain_w W _ pu.name pu.ls (retU pu) (HV1.out.later hW))
  have HSm := Lib.hid (fun (W : World) (hW : Below x2.heap.size x2 W) => HSame.out W _ _ (HV1.out.later hW) (HV2.out.later hW))
  by_cases he : pe = 0
  · have hg := HPg.out he
    obtain ⟨txt, htl, hpt, htx⟩ := text_good pu.name pu.ls (retU pu) hg H6.out
    have P9 := fun W (k : Mx W) => parse_one W k txt htl
    simp only [hpt] at P9
    have HP9 := Lib.hid P9
    have HTx := Lib.hid htx
    have hr9 : retU ⟨pu.name, pu.ls, some (retU pu).toNat⟩ = retU pu := by
      have := hg.low
      show (((retU pu).toNat : Nat) : Int) = retU pu
      omega
    have HR9 := Lib.hid hr9
    subst he
    clear hg htl hpt htx P9 hr9
    go_wp2_with fail
    rw [← HXE2.out]
    have sN : x2.cell? ⟨y1.heap.size, 0, none⟩ = some (.string n1) ∧ x2.cell? ⟨y1.heap.size, 1, none⟩ = some (.slice a11 m11 c11) ∧ x2.cell? ⟨y1.heap.size, 2, none⟩ = some (.slice a12 m12 c12) ∧ x2.cell? ⟨y1.heap.size, 3, none⟩ = some (.slice a13 m13 c13) ∧ x2.cell? ⟨y1.heap.size, 4, none⟩ = some (.slice a14 m14 c14) ∧ x2.cell? ⟨y1.heap.size, 5, none⟩ = some (.slice a15 m15 c15) ∧ x2.cell? ⟨y1.heap.size, 6, none⟩ = some (.slice a16 m16 c16) ∧ x2.cell? ⟨y1.heap.size, 7, none⟩ = some (.int .i64 r1) ∧ x2.cell? ⟨y2.heap.size, 0, none⟩ = some (.string n2) ∧ x2.cell? ⟨y2.heap.size, 1, none⟩ = some (.slice a21 m21 c21) ∧ x2.cell? ⟨y2.heap.size, 2, none⟩ = some (.slice a22 m22 c22) ∧ x2.cell? ⟨y2.heap.size, 3, none⟩ = some (.slice a23 m23 c23) ∧ x2.cell? ⟨y2.heap.size, 4, none⟩ = some (.slice a24 m24 c24) ∧ x2.cell? ⟨y2.heap.size, 5, none⟩ = some (.slice a25 m25 c25) ∧ x2.cell? ⟨y2.heap.size, 6, none⟩ = some (.slice a26 m26 c26) ∧ x2.cell? ⟨y2.heap.size, 7, none⟩ = some (.int .i64 r2) := HKeep.out x2 (Below.refl _ _)
    go_region_held3 (fun W : World => W.cell? ⟨y1.heap.size, 0, none⟩ = some (.string n1) ∧ W.cell? ⟨y1.heap.size, 1, none⟩ = some (.slice a11 m11 c11) ∧ W.cell? ⟨y1.heap.size, 2, none⟩ = some (.slice a12 m12 c12) ∧ W.cell? ⟨y1.heap.size, 3, none⟩ = some (.slice a13 m13 c13) ∧ W.cell? ⟨y1.heap.size, 4, none⟩ = some (.slice a14 m14 c14) ∧ W.cell? ⟨y1.heap.size, 5, none⟩ = some (.slice a15 m15 c15) ∧ W.cell? ⟨y1.heap.size, 6, none⟩ = some (.slice a16 m16 c16) ∧ W.cell? ⟨y1.heap.size, 7, none⟩ = some (.int .i64 r1) ∧ W.cell? ⟨y2.heap.size, 0, none⟩ = some (.string n2) ∧ W.cell? ⟨y2.heap.size, 1, none⟩ = some (.slice a21 m21 c21) ∧ W.cell? ⟨y2.heap.size, 2, none⟩ = some (.slice a22 m22 c22) ∧ W.cell? ⟨y2.heap.size, 3, none⟩ = some (.slice a23 m23 c23) ∧ W.cell? ⟨y2.heap.size, 4, none⟩ = some (.slice a24 m24 c24) ∧ W.cell? ⟨y2.heap.size, 5, none⟩ = some (.slice a25 m25 c25) ∧ W.cell? ⟨y2.heap.size, 6, none⟩ = some (.slice a26 m26 c26) ∧ W.cell? ⟨y2.heap.size, 7, none⟩ = some (.int .i64 r2)) (first | exact sN | go_keep) (first
      | (have _g := K1.out; clear _g; go_at_call 9; refine (HSm.out _ (show Below x2.heap.size x2 _ from (by first | exact K1.out | exact K1.out.drew))).mono ?_; rintro e k2 ⟨rfl, hk2⟩; have K2 := Lib.hid (show Below x2.heap.size x2 k2 from Below.trans (show Below x2.heap.size x2 _ from (by first | exact K1.out | exact K1.out.drew)) (hk2.mono (Below.size (show Below x2.heap.size x2 _ from (by first | exact K1.out | exact K1.out.drew))))); have sN := (show k2.cell? ⟨y1.heap.size, 0, none⟩ = some (.string n1) ∧ k2.cell? ⟨y1.heap.size, 1, none⟩ = some (.slice a11 m11 c11) ∧ k2.cell? ⟨y1.heap.size, 2, none⟩ = some (.slice a12 m12 c12) ∧ k2.cell? ⟨y1.heap.size, 3, none⟩ = some (.slice a13 m13 c13) ∧ k2.cell? ⟨y1.heap.size, 4, none⟩ = some (.slice a14 m14 c14) ∧ k2.cell? ⟨y1.heap.size, 5, none⟩ = some (.slice a15 m15 c15) ∧ k2.cell? ⟨y1.heap.size, 6, none⟩ = some (.slice a16 m16 c16) ∧ k2.cell? ⟨y1.heap.size, 7, none⟩ = some (.int .i64 r1) ∧ k2.cell? ⟨y2.heap.size, 0, none⟩ = some (.string n2) ∧ k2.cell? ⟨y2.heap.size, 1, none⟩ = some (.slice a21 m21 c21) ∧ k2.cell? ⟨y2.heap.size, 2, none⟩ = some (.slice a22 m22 c22) ∧ k2.cell? ⟨y2.heap.size, 3, none⟩ = some (.slice a23 m23 c23) ∧ k2.cell? ⟨y2.heap.size, 4, none⟩ = some (.slice a24 m24 c24) ∧ k2.cell? ⟨y2.heap.size, 5, none⟩ = some (.slice a25 m25 c25) ∧ k2.cell? ⟨y2.heap.size, 6, none⟩ = some (.slice a26 m26 c26) ∧ k2.cell? ⟨y2.heap.size, 7, none⟩ = some (.int .i64 r2) from HKeep.out k2 K2.out); clear hk2)
      | (go_at_call 10; refine (HPl.out _ (show Below x2.heap.size x2 _ from (by first | exact (Below.refl _ _) | exact (Below.refl _ _).drew))).mono ?_; rintro e k1 ⟨rfl, hk1⟩; have K1 := Lib.hid (show Below x2.heap.size x2 k1 from Below.trans (show Below x2.heap.size x2 _ from (by first | exact (Below.refl _ _) | exact (Below.refl _ _).drew)) (hk1.mono (Below.size (show Below x2.heap.size x2 _ from (by first | exact (Below.refl _ _) | exact (Below.refl _ _).drew))))); have sN := (show k1.cell? ⟨y1.heap.size, 0, none⟩ = some (.string n1) ∧ k1.cell? ⟨y1.heap.size, 1, none⟩ = some (.slice a11 m11 c11) ∧ k1.cell? ⟨y1.heap.size, 2, none⟩ = some (.slice a12 m12 c12) ∧ k1.cell? ⟨y1.heap.size, 3, none⟩ = some (.slice a13 m13 c13) ∧ k1.cell? ⟨y1.heap.size, 4, none⟩ = some (.slice a14 m14 c14) ∧ k1.cell? ⟨y1.heap.size, 5, none⟩ = some (.slice a15 m15 c15) ∧ k1.cell? ⟨y1.heap.size, 6, none⟩ = some (.slice a16 m16 c16) ∧ k1.cell? ⟨y1.heap.size, 7, none⟩ = some (.int .i64 r1) ∧ k1.cell? ⟨y2.heap.size, 0, none⟩ = some (.string n2) ∧ k1.cell? ⟨y2.heap.size, 1, none⟩ = some (.slice a21 m21 c21) ∧ k1.cell? ⟨y2.heap.size, 2, none⟩ = some (.slice a22 m22 c22) ∧ k1.cell? ⟨y2.heap.size, 3, none⟩ = some (.slice a23 m23 c23) ∧ k1.cell? ⟨y2.heap.size, 4, none⟩ = some (.slice a24 m24 c24) ∧ k1.cell? ⟨y2.heap.size, 5, none⟩ = some (.slice a25 m25 c25) ∧ k1.cell? ⟨y2.heap.size, 6, none⟩ = some (.slice a26 m26 c26) ∧ k1.cell? ⟨y2.heap.size, 7, none⟩ = some (.int .i64 r2) from HKeep.out k1 K1.out); clear hk1))
    clear sN
    obtain ⟨p0, p1, p2, p3, p4, p5, p6, p7, q0, q1, q2, q3, q4, q5, q6, q7⟩ := HKeep.out k2 K2.out
    have HT1 := Lib.hid (HTx.out k2 _ (HV1.out.later K2.out))
    go_wp2_with fail
    refine HT1.out.mono ?_
    rintro e y3 ⟨rfl, hb3⟩
    have HY3 := Lib.hid (K2.out.trans (hb3.mono K2.out.size))
    clear HT1 hb3 p0 p1 p2 p3 p4 p5 p6 p7 q0 q1 q2 q3 q4 q5 q6 q7
    go_wp2_with fail
    refine (HP9.out y3 (HM.out.later (HX2.out.trans (HY3.out.mono HX2.out.size)))).mono ?_
    rintro e y4 ⟨⟨u4, rfl, hV4⟩, hb4⟩
    have hW4 := hV4.w
    rw [HR9.out] at hW4
    have HV4 := Lib.hid (show UnitW y4 u4 pu.name pu.ls (retU pu) from hW4)
    obtain ⟨n3, a31, a32, a33, a34, a35, a36, m31, m32, m33, m34, m35, m36, c31, c32, c33, c34, c35, c36, r3, rfl⟩ := unit_parts hV4
    have HY4 := Lib.hid (HY3.out.trans (hb4.mono HY3.out.size))
    obtain ⟨x4, hx4⟩ : ∃ x, x = y4.alloc (.cells #[.string n3, .slice a31 m31 c31, .slice a32 m32 c32, .slice a33 m33 c33, .slice a34 m34 c34, .slice a35 m35 c35, .slice a36 m36 c36, .int .i64 r3] 25) := ⟨_, rfl⟩
    have al4 : Below y4.heap.size y4 x4 := by rw [hx4]; exact (Below.refl _ _).alloc (Nat.le_refl _) _
    have HX4 := Lib.hid (HY4.out.trans (al4.mono HY4.out.size))
    have HV4 := Lib.hid (HV4.out.later al4)
    have D1 := Lib.hid ((HX4.out.block _ (lt_of_heap D1.out)).trans D1.out)
    have D2 := Lib.hid ((HX4.out.block _ (lt_of_heap D2.out)).trans D2.out)
    have D4 := Lib.hid (show x4.heap[y4.heap.size]? = some (.cells #[.string n3, .slice a31 m31 c31, .slice a32 m32 c32, .slice a33 m33 c33, .slice a34 m34 c34, .slice a35 m35 c35, .slice a36 m36 c36, .int .i64 r3] 25) from by rw [hx4]; exact World.alloc_heap_new y4 _)
    have HXE4 := Lib.hid hx4
    have HKeep4 := Lib.hid (fun (W : World) (hW : Below x4.heap.size x4 W) => three_cells' (w := W) (T := 25) (T2 := 31) (T3 := 25) ((hW.block _ (lt_of_heap D1.out)).trans D1.out) ((hW.block _ (lt_of_heap D2.out)).trans D2.out) ((hW.block _ (lt_of_heap D4.out)).trans D4.out))
    have HPl9 := Lib.hid (fun (W : World) (hW : Below x4.heap.size x4 W) => plain_w W _ pu.name pu.ls (retU pu) (HV4.out.later hW))
    have HSm9 := Lib.hid (fun (W : World) (hW : Below x4.heap.size x4 W) => HSame.out W _ _ (HV4.out.later hW) ((HV2.out.later HX4.out).later hW))
    have HT9 := Lib.hid (fun (W : World) (hW : Below x4.heap.size x4 W) => HTx.out W _ (HV4.out.later hW))
    have HT1 := Lib.hid (fun (W : World) (hW : Below x4.heap.size x4 W) => HTx.out W _ ((HV1.out.later HX4.out).later hW))
    clear hV4 hW4 hb4 hx4 al4 HTx
    generalize toB txt = tb at *
    go_wp2_with fail
    rw [← HXE4.out]
    have sN : x4.cell? ⟨y1.heap.size, 0, none⟩ = some (.string n1) ∧ x4.cell? ⟨y1.heap.size, 1, none⟩ = some (.slice a11 m11 c11) ∧ x4.cell? ⟨y1.heap.size, 2, none⟩ = some (.slice a12 m12 c12) ∧ x4.cell? ⟨y1.heap.size, 3, none⟩ = some (.slice a13 m13 c13) ∧ x4.cell? ⟨y1.heap.size, 4, none⟩ = some (.slice a14 m14 c14) ∧ x4.cell? ⟨y1.heap.size, 5, none⟩ = some (.slice a15 m15 c15) ∧ x4.cell? ⟨y1.heap.size, 6, none⟩ = some (.slice a16 m16 c16) ∧ x4.cell? ⟨y1.heap.size, 7, none⟩ = some (.int .i64 r1) ∧ x4.cell? ⟨y2.heap.size, 0, none⟩ = some (.string n2) ∧ x4.cell? ⟨y2.heap.size, 1, none⟩ = some (.slice a21 m21 c21) ∧ x4.cell? ⟨y2.heap.size, 2, none⟩ = some (.slice a22 m22 c22) ∧ x4.cell? ⟨y2.heap.size, 3, none⟩ = some (.slice a23 m23 c23) ∧ x4.cell? ⟨y2.heap.size, 4, none⟩ = some (.slice a24 m24 c24) ∧ x4.cell? ⟨y2.heap.size, 5, none⟩ = some (.slice a25 m25 c25) ∧ x4.cell? ⟨y2.heap.size, 6, none⟩ = some (.slice a26 m26 c26) ∧ x4.cell? ⟨y2.heap.size, 7, none⟩ = some (.int .i64 r2) ∧ x4.cell? ⟨y4.heap.size, 0, none⟩ = some (.string n3) ∧ x4.cell? ⟨y4.heap.size, 1, none⟩ = some (.slice a31 m31 c31) ∧ x4.cell? ⟨y4.heap.size, 2, none⟩ = some (.slice a32 m32 c32) ∧ x4.cell? ⟨y4.heap.size, 3, none⟩ = some (.slice a33 m33 c33) ∧ x4.cell? ⟨y4.heap.size, 4, none⟩ = some (.slice a34 m34 c34) ∧ x4.cell? ⟨y4.heap.size, 5, none⟩ = some (.slice a35 m35 c35) ∧ x4.cell? ⟨y4.heap.size, 6, none⟩ = some (.slice a36 m36 c36) ∧ x4.cell? ⟨y4.heap.size, 7, none⟩ = some (.int .i64 r3) := HKeep4.out x4 (Below.refl _ _)
    go_region_held3 (fun W : World => W.cell? ⟨y1.heap.size, 0, none⟩ = some (.string n1) ∧ W.cell? ⟨y1.heap.size, 1, none⟩ = some (.slice a11 m11 c11) ∧ W.cell? ⟨y1.heap.size, 2, none⟩ = some (.slice a12 m12 c12) ∧ W.cell? ⟨y1.heap.size, 3, none⟩ = some (.slice a13 m13 c13) ∧ W.cell? ⟨y1.heap.size, 4, none⟩ = some (.slice a14 m14 c14) ∧ W.cell? ⟨y1.heap.size, 5, none⟩ = some (.slice a15 m15 c15) ∧ W.cell? ⟨y1.heap.size, 6, none⟩ = some (.slice a16 m16 c16) ∧ W.cell? ⟨y1.heap.size, 7, none⟩ = some (.int .i64 r1) ∧ W.cell? ⟨y2.heap.size, 0, none⟩ = some (.string n2) ∧ W.cell? ⟨y2.heap.size, 1, none⟩ = some (.slice a21 m21 c21) ∧ W.cell? ⟨y2.heap.size, 2, none⟩ = some (.slice a22 m22 c22) ∧ W.cell? ⟨y2.heap.size, 3, none⟩ = some (.slice a23 m23 c23) ∧ W.cell? ⟨y2.heap.size, 4, none⟩ = some (.slice a24 m24 c24) ∧ W.cell? ⟨y2.heap.size, 5, none⟩ = some (.slice a25 m25 c25) ∧ W.cell? ⟨y2.heap.size, 6, none⟩ = some (.slice a26 m26 c26) ∧ W.cell? ⟨y2.heap.size, 7, none⟩ = some (.int .i64 r2) ∧ W.cell? ⟨y4.heap.size, 0, none⟩ = some (.string n3) ∧ W.cell? ⟨y4.heap.size, 1, none⟩ = some (.slice a31 m31 c31) ∧ W.cell? ⟨y4.heap.size, 2, none⟩ = some (.slice a32 m32 c32) ∧ W.cell? ⟨y4.heap.size, 3, none⟩ = some (.slice a33 m33 c33) ∧ W.cell? ⟨y4.heap.size, 4, none⟩ = some (.slice a34 m34 c34) ∧ W.cell? ⟨y4.heap.size, 5, none⟩ = some (.slice a35 m35 c35) ∧ W.cell? ⟨y4.heap.size, 6, none⟩ = some (.slice a36 m36 c36) ∧ W.cell? ⟨y4.heap.size, 7, none⟩ = some (.int .i64 r3)) (first | exact sN | go_keep) (first
      | (have _g := K5.out; clear _g; go_at_call 11; refine (HT1.out _ (show Below x4.heap.size x4 _ from (by first | exact K5.out | exact K5.out.drew))).mono ?_; rintro e k6 ⟨rfl, hk6⟩; have K6 := Lib.hid (show Below x4.heap.size x4 k6 from Below.trans (show Below x4.heap.size x4 _ from (by first | exact K5.out | exact K5.out.drew)) (hk6.mono (Below.size (show Below x4.heap.size x4 _ from (by first | exact K5.out | exact K5.out.drew))))); have sN := (show k6.cell? ⟨y1.heap.size, 0, none⟩ = some (.string n1) ∧ k6.cell? ⟨y1.heap.size, 1, none⟩ = some (.slice a11 m11 c11) ∧ k6.cell? ⟨y1.heap.size, 2, none⟩ = some (.slice a12 m12 c12) ∧ k6.cell? ⟨y1.heap.size, 3, none⟩ = some (.slice a13 m13 c13) ∧ k6.cell? ⟨y1.heap.size, 4, none⟩ = some (.slice a14 m14 c14) ∧ k6.cell? ⟨y1.heap.size, 5, none⟩ = some (.slice a15 m15 c15) ∧ k6.cell? ⟨y1.heap.size, 6, none⟩ = some (.slice a16 m16 c16) ∧ k6.cell? ⟨y1.heap.size, 7, none⟩ = some (.int .i64 r1) ∧ k6.cell? ⟨y2.heap.size, 0, none⟩ = some (.string n2) ∧ k6.cell? ⟨y2.heap.size, 1, none⟩ = some (.slice a21 m21 c21) ∧ k6.cell? ⟨y2.heap.size, 2, none⟩ = some (.slice a22 m22 c22) ∧ k6.cell? ⟨y2.heap.size, 3, none⟩ = some (.slice a23 m23 c23) ∧ k6.cell? ⟨y2.heap.size, 4, none⟩ = some (.slice a24 m24 c24) ∧ k6.cell? ⟨y2.heap.size, 5, none⟩ = some (.slice a25 m25 c25) ∧ k6.cell? ⟨y2.heap.size, 6, none⟩ = some (.slice a26 m26 c26) ∧ k6.cell? ⟨y2.heap.size, 7, none⟩ = some (.int .i64 r2) ∧ k6.cell? ⟨y4.heap.size, 0, none⟩ = some (.string n3) ∧ k6.cell? ⟨y4.heap.size, 1, none⟩ = some (.slice a31 m31 c31) ∧ k6.cell? ⟨y4.heap.size, 2, none⟩ = some (.slice a32 m32 c32) ∧ k6.cell? ⟨y4.heap.size, 3, none⟩ = some (.slice a33 m33 c33) ∧ k6.cell? ⟨y4.heap.size, 4, none⟩ = some (.slice a34 m34 c34) ∧ k6.cell? ⟨y4.heap.size, 5, none⟩ = some (.slice a35 m35 c35) ∧ k6.cell? ⟨y4.heap.size, 6, none⟩ = some (.slice a36 m36 c36) ∧ k6.cell? ⟨y4.heap.size, 7, none⟩ = some (.int .i64 r3) from HKeep4.out k6 K6.out); clear hk6)
      | (have _g := K4.out; clear _g; go_at_call 11; refine (HT9.out _ (show Below x4.heap.size x4 _ from (by first | exact K4.out | exact K4.out.drew))).mono ?_; rintro e k5 ⟨rfl, hk5⟩; have K5 := Lib.hid (show Below x4.heap.size x4 k5 from Below.trans (show Below x4.heap.size x4 _ from (by first | exact K4.out | exact K4.out.drew)) (hk5.mono (Below.size (show Below x4.heap.size x4 _ from (by first | exact K4.out | exact K4.out.drew))))); have sN := (show k5.cell? ⟨y1.heap.size, 0, none⟩ = some (.string n1) ∧ k5.cell? ⟨y1.heap.size, 1, none⟩ = some (.slice a11 m11 c11) ∧ k5.cell? ⟨y1.heap.size, 2, none⟩ = some (.slice a12 m12 c12) ∧ k5.cell? ⟨y1.heap.size, 3, none⟩ = some (.slice a13 m13 c13) ∧ k5.cell? ⟨y1.heap.size, 4, none⟩ = some (.slice a14 m14 c14) ∧ k5.cell? ⟨y1.heap.size, 5, none⟩ = some (.slice a15 m15 c15) ∧ k5.cell? ⟨y1.heap.size, 6, none⟩ = some (.slice a16 m16 c16) ∧ k5.cell? ⟨y1.heap.size, 7, none⟩ = some (.int .i64 r1) ∧ k5.cell? ⟨y2.heap.size, 0, none⟩ = some (.string n2) ∧ k5.cell? ⟨y2.heap.size, 1, none⟩ = some (.slice a21 m21 c21) ∧ k5.cell? ⟨y2.heap.size, 2, none⟩ = some (.slice a22 m22 c22) ∧ k5.cell? ⟨y2.heap.size, 3, none⟩ = some (.slice a23 m23 c23) ∧ k5.cell? ⟨y2.heap.size, 4, none⟩ = some (.slice a24 m24 c24) ∧ k5.cell? ⟨y2.heap.size, 5, none⟩ = some (.slice a25 m25 c25) ∧ k5.cell? ⟨y2.heap.size, 6, none⟩ = some (.slice a26 m26 c26) ∧ k5.cell? ⟨y2.heap.size, 7, none⟩ = some (.int .i64 r2) ∧ k5.cell? ⟨y4.heap.size, 0, none⟩ = some (.string n3) ∧ k5.cell? ⟨y4.heap.size, 1, none⟩ = some (.slice a31 m31 c31) ∧ k5.cell? ⟨y4.heap.size, 2, none⟩ = some (.slice a32 m32 c32) ∧ k5.cell? ⟨y4.heap.size, 3, none⟩ = some (.slice a33 m33 c33) ∧ k5.cell? ⟨y4.heap.size, 4, none⟩ = some (.slice a34 m34 c34) ∧ k5.cell? ⟨y4.heap.size, 5, none⟩ = some (.slice a35 m35 c35) ∧ k5.cell? ⟨y4.heap.size, 6, none⟩ = some (.slice a36 m36 c36) ∧ k5.cell? ⟨y4.heap.size, 7, none⟩ = some (.int .i64 r3) from HKeep4.out k5 K5.out); clear hk5)
      | (have _g := K3.out; clear _g; go_at_call 9; refine (HSm9.out _ (show Below x4.heap.size x4 _ from (by first | exact K3.out | exact K3.out.drew))).mono ?_; rintro e k4 ⟨rfl, hk4⟩; have K4 := Lib.hid (show Below x4.heap.size x4 k4 from Below.trans (show Below x4.heap.size x4 _ from (by first | exact K3.out | exact K3.out.drew)) (hk4.mono (Below.size (show Below x4.heap.size x4 _ from (by first | exact K3.out | exact K3.out.drew))))); have sN := (show k4.cell? ⟨y1.heap.size, 0, none⟩ = some (.string n1) ∧ k4.cell? ⟨y1.heap.size, 1, none⟩ = some (.slice a11 m11 c11) ∧ k4.cell? ⟨y1.heap.size, 2, none⟩ = some (.slice a12 m12 c12) ∧ k4.cell? ⟨y1.heap.size, 3, none⟩ = some (.slice a13 m13 c13) ∧ k4.cell? ⟨y1.heap.size, 4, none⟩ = some (.slice a14 m14 c14) ∧ k4.cell? ⟨y1.heap.size, 5, none⟩ = some (.slice a15 m15 c15) ∧ k4.cell? ⟨y1.heap.size, 6, none⟩ = some (.slice a16 m16 c16) ∧ k4.cell? ⟨y1.heap.size, 7, none⟩ = some (.int .i64 r1) ∧ k4.cell? ⟨y2.heap.size, 0, none⟩ = some (.string n2) ∧ k4.cell? ⟨y2.heap.size, 1, none⟩ = some (.slice a21 m21 c21) ∧ k4.cell? ⟨y2.heap.size, 2, none⟩ = some (.slice a22 m22 c22) ∧ k4.cell? ⟨y2.heap.size, 3, none⟩ = some (.slice a23 m23 c23) ∧ k4.cell? ⟨y2.heap.size, 4, none⟩ = some (.slice a24 m24 c24) ∧ k4.cell? ⟨y2.heap.size, 5, none⟩ = some (.slice a25 m25 c25) ∧ k4.cell? ⟨y2.heap.size, 6, none⟩ = some (.slice a26 m26 c26) ∧ k4.cell? ⟨y2.heap.size, 7, none⟩ = some (.int .i64 r2) ∧ k4.cell? ⟨y4.heap.size, 0, none⟩ = some (.string n3) ∧ k4.cell? ⟨y4.heap.size, 1, none⟩ = some (.slice a31 m31 c31) ∧ k4.cell? ⟨y4.heap.size, 2, none⟩ = some (.slice a32 m32 c32) ∧ k4.cell? ⟨y4.heap.size, 3, none⟩ = some (.slice a33 m33 c33) ∧ k4.cell? ⟨y4.heap.size, 4, none⟩ = some (.slice a34 m34 c34) ∧ k4.cell? ⟨y4.heap.size, 5, none⟩ = some (.slice a35 m35 c35) ∧ k4.cell? ⟨y4.heap.size, 6, none⟩ = some (.slice a36 m36 c36) ∧ k4.cell? ⟨y4.heap.size, 7, none⟩ = some (.int .i64 r3) from HKeep4.out k4 K4.out); clear hk4)
      | (go_at_call 10; refine (HPl9.out _ (show Below x4.heap.size x4 _ from (by first | exact (Below.refl _ _) | exact (Below.refl _ _).drew))).mono ?_; rintro e k3 ⟨rfl, hk3⟩; have K3 := Lib.hid (show Below x4.heap.size x4 k3 from Below.trans (show Below x4.heap.size x4 _ from (by first | exact (Below.refl _ _) | exact (Below.refl _ _).drew)) (hk3.mono (Below.size (show Below x4.heap.size x4 _ from (by first | exact (Below.refl _ _) | exact (Below.refl _ _).drew))))); have sN := (show k3.cell? ⟨y1.heap.size, 0, none⟩ = some (.string n1) ∧ k3.cell? ⟨y1.heap.size, 1, none⟩ = some (.slice a11 m11 c11) ∧ k3.cell? ⟨y1.heap.size, 2, none⟩ = some (.slice a12 m12 c12) ∧ k3.cell? ⟨y1.heap.size, 3, none⟩ = some (.slice a13 m13 c13) ∧ k3.cell? ⟨y1.heap.size, 4, none⟩ = some (.slice a14 m14 c14) ∧ k3.cell? ⟨y1.heap.size, 5, none⟩ = some (.slice a15 m15 c15) ∧ k3.cell? ⟨y1.heap.size, 6, none⟩ = some (.slice a16 m16 c16) ∧ k3.cell? ⟨y1.heap.size, 7, none⟩ = some (.int .i64 r1) ∧ k3.cell? ⟨y2.heap.size, 0, none⟩ = some (.string n2) ∧ k3.cell? ⟨y2.heap.size, 1, none⟩ = some (.slice a21 m21 c21) ∧ k3.cell? ⟨y2.heap.size, 2, none⟩ = some (.slice a22 m22 c22) ∧ k3.cell? ⟨y2.heap.size, 3, none⟩ = some (.slice a23 m23 c23) ∧ k3.cell? ⟨y2.heap.size, 4, none⟩ = some (.slice a24 m24 c24) ∧ k3.cell? ⟨y2.heap.size, 5, none⟩ = some (.slice a25 m25 c25) ∧ k3.cell? ⟨y2.heap.size, 6, none⟩ = some (.slice a26 m26 c26) ∧ k3.cell? ⟨y2.heap.size, 7, none⟩ = some (.int .i64 r2) ∧ k3.cell? ⟨y4.heap.size, 0, none⟩ = some (.string n3) ∧ k3.cell? ⟨y4.heap.size, 1, none⟩ = some (.slice a31 m31 c31) ∧ k3.cell? ⟨y4.heap.size, 2, none⟩ = some (.slice a32 m32 c32) ∧ k3.cell? ⟨y4.heap.size, 3, none⟩ = some (.slice a33 m33 c33) ∧ k3.cell? ⟨y4.heap.size, 4, none⟩ = some (.slice a34 m34 c34) ∧ k3.cell? ⟨y4.heap.size, 5, none⟩ = some (.slice a35 m35 c35) ∧ k3.cell? ⟨y4.heap.size, 6, none⟩ = some (.slice a36 m36 c36) ∧ k3.cell? ⟨y4.heap.size, 7, none⟩ = some (.int .i64 r3) from HKeep4.out k3 K3.out); clear hk3))
    clear sN
    go_wp2_with fail
    go_ret
    exact ⟨rfl, (HX2.out.trans (HX4.out.mono HX2.out.size)).trans (K6.out.mono (HX2.out.trans (HX4.out.mono HX2.out.size)).size)⟩
  · have he1 : (pe == 0) = false := by rw [beq_eq_false_iff_ne]; exact he
    have he2 : (pe != 0) = true := by rw [bne_iff_ne]; exact he
    clear he
    go_wp2_with fail
    rw [← HXE2.out]
    have sN : x2.cell? ⟨y1.heap.size, 0, none⟩ = some (.string n1) ∧ x2.cell? ⟨y1.heap.size, 1, none⟩ = some (.slice a11 m11 c11) ∧ x2.cell? ⟨y1.heap.size, 2, none⟩ = some (.slice a12 m12 c12) ∧ x2.cell? ⟨y1.heap.size, 3, none⟩ = some (.slice a13 m13 c13) ∧ x2.cell? ⟨y1.heap.size, 4, none⟩ = some (.slice a14 m14 c14) ∧ x2.cell? ⟨y1.heap.size, 5, none⟩ = some (.slice a15 m15 c15) ∧ x2.cell? ⟨y1.heap.size, 6, none⟩ = some (.slice a16 m16 c16) ∧ x2.cell? ⟨y1.heap.size, 7, none⟩ = some (.int .i64 r1) ∧ x2.cell? ⟨y2.heap.size, 0, none⟩ = some (.string n2) ∧ x2.cell? ⟨y2.heap.size, 1, none⟩ = some (.slice a21 m21 c21) ∧ x2.cell? ⟨y2.heap.size, 2, none⟩ = some (.slice a22 m22 c22) ∧ x2.cell? ⟨y2.heap.size, 3, none⟩ = some (.slice a23 m23 c23) ∧ x2.cell? ⟨y2.heap.size, 4, none⟩ = some (.slice a24 m24 c24) ∧ x2.cell? ⟨y2.heap.size, 5, none⟩ = some (.slice a25 m25 c25) ∧ x2.cell? ⟨y2.heap.size, 6, none⟩ = some (.slice a26 m26 c26) ∧ x2.cell? ⟨y2.heap.size, 7, none⟩ = some (.int .i64 r2) := HKeep.out x2 (Below.refl _ _)
    go_region_held3 (fun W : World => W.cell? ⟨y1.heap.size, 0, none⟩ = some (.string n1) ∧ W.cell? ⟨y1.heap.size, 1, none⟩ = some (.slice a11 m11 c11) ∧ W.cell? ⟨y1.heap.size, 2, none⟩ = some (.slice a12 m12 c12) ∧ W.cell? ⟨y1.heap.size, 3, none⟩ = some (.slice a13 m13 c13) ∧ W.cell? ⟨y1.heap.size, 4, none⟩ = some (.slice a14 m14 c14) ∧ W.cell? ⟨y1.heap.size, 5, none⟩ = some (.slice a15 m15 c15) ∧ W.cell? ⟨y1.heap.size, 6, none⟩ = some (.slice a16 m16 c16) ∧ W.cell? ⟨y1.heap.size, 7, none⟩ = some (.int .i64 r1) ∧ W.cell? ⟨y2.heap.size, 0, none⟩ = some (.string n2) ∧ W.cell? ⟨y2.heap.size, 1, none⟩ = some (.slice a21 m21 c21) ∧ W.cell? ⟨y2.heap.size, 2, none⟩ = some (.slice a22 m22 c22) ∧ W.cell? ⟨y2.heap.size, 3, none⟩ = some (.slice a23 m23 c23) ∧ W.cell? ⟨y2.heap.size, 4, none⟩ = some (.slice a24 m24 c24) ∧ W.cell? ⟨y2.heap.size, 5, none⟩ = some (.slice a25 m25 c25) ∧ W.cell? ⟨y2.heap.size, 6, none⟩ = some (.slice a26 m26 c26) ∧ W.cell? ⟨y2.heap.size, 7, none⟩ = some (.int .i64 r2)) (first | exact sN | go_keep) (first
      | (have _g := K1.out; clear _g; go_at_call 9; refine (HSm.out _ (show Below x2.heap.size x2 _ from (by first | exact K1.out | exact K1.out.drew))).mono ?_; rintro e k2 ⟨rfl, hk2⟩; have K2 := Lib.hid (show Below x2.heap.size x2 k2 from Below.trans (show Below x2.heap.size x2 _ from (by first | exact K1.out | exact K1.out.drew)) (hk2.mono (Below.size (show Below x2.heap.size x2 _ from (by first | exact K1.out | exact K1.out.drew))))); have sN := (show k2.cell? ⟨y1.heap.size, 0, none⟩ = some (.string n1) ∧ k2.cell? ⟨y1.heap.size, 1, none⟩ = some (.slice a11 m11 c11) ∧ k2.cell? ⟨y1.heap.size, 2, none⟩ = some (.slice a12 m12 c12) ∧ k2.cell? ⟨y1.heap.size, 3, none⟩ = some (.slice a13 m13 c13) ∧ k2.cell? ⟨y1.heap.size, 4, none⟩ = some (.slice a14 m14 c14) ∧ k2.cell? ⟨y1.heap.size, 5, none⟩ = some (.slice a15 m15 c15) ∧ k2.cell? ⟨y1.heap.size, 6, none⟩ = some (.slice a16 m16 c16) ∧ k2.cell? ⟨y1.heap.size, 7, none⟩ = some (.int .i64 r1) ∧ k2.cell? ⟨y2.heap.size, 0, none⟩ = some (.string n2) ∧ k2.cell? ⟨y2.heap.size, 1, none⟩ = some (.slice a21 m21 c21) ∧ k2.cell? ⟨y2.heap.size, 2, none⟩ = some (.slice a22 m22 c22) ∧ k2.cell? ⟨y2.heap.size, 3, none⟩ = some (.slice a23 m23 c23) ∧ k2.cell? ⟨y2.heap.size, 4, none⟩ = some (.slice a24 m24 c24) ∧ k2.cell? ⟨y2.heap.size, 5, none⟩ = some (.slice a25 m25 c25) ∧ k2.cell? ⟨y2.heap.size, 6, none⟩ = some (.slice a26 m26 c26) ∧ k2.cell? ⟨y2.heap.size, 7, none⟩ = some (.int .i64 r2) from HKeep.out k2 K2.out); clear hk2)
      | (go_at_call 10; refine (HPl.out _ (show Below x2.heap.size x2 _ from (by first | exact (Below.refl _ _) | exact (Below.refl _ _).drew))).mono ?_; rintro e k1 ⟨rfl, hk1⟩; have K1 := Lib.hid (show Below x2.heap.size x2 k1 from Below.trans (show Below x2.heap.size x2 _ from (by first | exact (Below.refl _ _) | exact (Below.refl _ _).drew)) (hk1.mono (Below.size (show Below x2.heap.size x2 _ from (by first | exact (Below.refl _ _) | exact (Below.refl _ _).drew))))); have sN := (show k1.cell? ⟨y1.heap.size, 0, none⟩ = some (.string n1) ∧ k1.cell? ⟨y1.heap.size, 1, none⟩ = some (.slice a11 m11 c11) ∧ k1.cell? ⟨y1.heap.size, 2, none⟩ = some (.slice a12 m12 c12) ∧ k1.cell? ⟨y1.heap.size, 3, none⟩ = some (.slice a13 m13 c13) ∧ k1.cell? ⟨y1.heap.size, 4, none⟩ = some (.slice a14 m14 c14) ∧ k1.cell? ⟨y1.heap.size, 5, none⟩ = some (.slice a15 m15 c15) ∧ k1.cell? ⟨y1.heap.size, 6, none⟩ = some (.slice a16 m16 c16) ∧ k1.cell? ⟨y1.heap.size, 7, none⟩ = some (.int .i64 r1) ∧ k1.cell? ⟨y2.heap.size, 0, none⟩ = some (.string n2) ∧ k1.cell? ⟨y2.heap.size, 1, none⟩ = some (.slice a21 m21 c21) ∧ k1.cell? ⟨y2.heap.size, 2, none⟩ = some (.slice a22 m22 c22) ∧ k1.cell? ⟨y2.heap.size, 3, none⟩ = some (.slice a23 m23 c23) ∧ k1.cell? ⟨y2.heap.size, 4, none⟩ = some (.slice a24 m24 c24) ∧ k1.cell? ⟨y2.heap.size, 5, none⟩ = some (.slice a25 m25 c25) ∧ k1.cell? ⟨y2.heap.size, 6, none⟩ = some (.slice a26 m26 c26) ∧ k1.cell? ⟨y2.heap.size, 7, none⟩ = some (.int .i64 r2) from HKeep.out k1 K1.out); clear hk1))
    clear sN
    go_wp2_with fail
    go_ret
    exact ⟨rfl, HX2.out.trans (K2.out.mono HX2.out.size)⟩
theorem parses_law (w : World) (hm : Mx w) (s : ByteArray) :
    Calls Tryd.prog 3 #[.string s] w fun e w' => e = .returned (.bool true) ∧ Below w.heap.size w w' := by
  by_cases hs : s.size ≤ 1000
  · exact parses_main w hm s hs
  · have hal := unit_alive w hm
    have gs : (1000 : Int) < (s.size : Int) := by omega
    clear hs
    go_enter Tryd.func3, Tryd.ntmps3
    go_wp2_with fail
    refine hal.mono ?_
    rintro e w1 ⟨rfl, hb1⟩
    go_wp2_with fail
    go_ret
    exact ⟨rfl, hb1⟩
end Go.Proofs.YtmnohaefklglfaaDoor
