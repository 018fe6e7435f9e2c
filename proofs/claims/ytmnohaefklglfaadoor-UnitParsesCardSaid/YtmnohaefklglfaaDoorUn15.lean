/- The document's example of a unit. -/
import Derived.Test.YtmnohaefklglfaaDoorUn14
namespace Go.Proofs.YtmnohaefklglfaaDoor
open Go.RowKit
set_option linter.unusedVariables false
set_option linter.unusedSimpArgs false
set_option maxRecDepth 100000

def ex1 : List UInt8 := [117, 110, 105, 116, 32, 119, 101, 98, 10, 102, 105, 108, 101, 32, 47, 98, 105, 110, 47, 119, 101, 98, 10, 97, 102, 116, 101, 114, 32, 100, 98, 10, 114, 101, 113, 117, 105, 114, 101, 115, 32, 100, 98, 10, 35, 32, 109, 111, 114, 101, 10, 114, 101, 116, 114, 121, 32, 50, 10]
def ex2 : List UInt8 := [117, 110, 105, 116, 32, 119, 101, 98, 10, 102, 105, 108, 101, 32, 98, 105, 110, 10]
def ex3 : List UInt8 := [117, 110, 105, 116, 32, 119, 101, 98, 10, 102, 105, 108, 101, 32, 47, 98, 105, 110, 47, 119, 101, 98, 10, 97, 102, 116, 101, 114, 32, 100, 98, 10, 114, 101, 113, 117, 105, 114, 101, 115, 32, 100, 98, 10, 114, 101, 116, 114, 121, 32, 50, 10]
def exU : UD := ⟨[119, 101, 98], [[[47, 98, 105, 110, 47, 119, 101, 98]], [[100, 98]], [], [[100, 98]], [], []], some 2⟩
theorem parse_ex1 : parseU ex1 = (0, 0, exU) := by kernel_rfl
theorem parse_ex2 : parseU ex2 = (14, 2, UD0) := by kernel_rfl
theorem text_ex : textT [119, 101, 98] [[[47, 98, 105, 110, 47, 119, 101, 98]], [[100, 98]], [], [[100, 98]], [], []] [50] = ex3 := by decide +kernel
theorem itoa_small (r : Nat) (hr : r < 10) (w : World) : Calls Tryd.prog 22 #[.int .i64 r] w fun e w' => e = .returned (.string (toB [48 + (UInt8.ofNat r)])) ∧ w = w' := by
  refine (Tryd.strconv_Itoa_small r (by omega) w).mono fun e w' h => ⟨?_, h.2.symm⟩
  rw [h.1]
  have : ∀ r, r < 10 → Lib.decDigits r = [48 + (UInt8.ofNat r)] := by decide +kernel
  rw [this r hr]
set_option maxHeartbeats 8000000 in
theorem unit_alive (w : World) (hm : Mx w) : Calls Tryd.prog 6 #[] w fun e w' => e = .returned (.bool true) ∧ Below w.heap.size w w' := by
  have h1 := parse_one w hm ex1 (by decide)
  have h2 := fun w1 (hm1 : Mx w1) => parse_one w1 hm1 ex2 (by decide)
  rw [parse_ex1] at h1
  simp only [parse_ex2] at h2
  have H2 := Lib.hid h2
  have HM := Lib.hid hm
  clear h2 hm
  have h1' : Calls Tryd.prog 7 #[.string ⟨#[117, 110, 105, 116, 32, 119, 101, 98, 10, 102, 105, 108, 101, 32, 47, 98, 105, 110, 47, 119, 101, 98, 10, 97, 102, 116, 101, 114, 32, 100, 98, 10, 114, 101, 113, 117, 105, 114, 101, 115, 32, 100, 98, 10, 35, 32, 109, 111, 114, 101, 10, 114, 101, 116, 114, 121, 32, 50, 10]⟩] w _ := h1
  clear h1
  go_enter Tryd.func6, Tryd.ntmps6
  go_wp2_with fail
  refine h1'.mono ?_
  rintro e w1 ⟨⟨v, rfl, hV⟩, hb1⟩
  clear h1'
  obtain ⟨v0, v1, v2, v3, v4, v5, l0, l1, l2, l3, l4, l5, rfl, hu, h3⟩ := hV
  have hu' : [[[47, 98, 105, 110, 47, 119, 101, 98]], [[100, 98]], [], [[100, 98]], [], []] = [l0, l1, l2, l3, l4, l5] := hu
  simp only [List.cons.injEq, and_true] at hu'
  obtain ⟨rfl, rfl, rfl, rfl, rfl, rfl⟩ := hu'
  obtain ⟨a0, c0, rfl, q0⟩ := h3.s0
  obtain ⟨a1, c1, rfl, q1⟩ := h3.s1
  obtain ⟨a2, c2, rfl, q2⟩ := h3.s2
  obtain ⟨a3, c3, rfl, q3⟩ := h3.s3
  obtain ⟨a4, c4, rfl, q4⟩ := h3.s4
  obtain ⟨a5, c5, rfl, q5⟩ := h3.s5
  obtain ⟨g, o, rfl, hg, hc⟩ := q3.2.2 (by decide)
  have hdb : w1.cell? ⟨g, o + 0, none⟩ = some (.string (toB [100, 98])) := hc 0 (by decide)
  have H3 := Lib.hid h3
  clear h3 q0 q1 q2 q3 q4 q5 hc hu
  have HB1 := Lib.hid hb1
  have HG := Lib.hid hg
  clear hb1 hg
  obtain ⟨WA, hWA⟩ : ∃ WA, WA = w1.alloc (.cells #[.string ⟨#[119, 101, 98]⟩, .slice a0 1 c0, .slice a1 1 c1, .slice a2 0 c2, .slice (some ⟨g, o, none⟩) 1 c3, .slice a4 0 c4, .slice a5 0 c5, .int .i64 2] 25) := ⟨_, rfl⟩
  have hbA : Below w1.heap.size w1 WA := by rw [hWA]; exact (Below.refl _ _).alloc (Nat.le_refl _) _
  have hA : WA.heap[w1.heap.size]? = some (.cells #[.string ⟨#[119, 101, 98]⟩, .slice a0 1 c0, .slice a1 1 c1, .slice a2 0 c2, .slice (some ⟨g, o, none⟩) 1 c3, .slice a4 0 c4, .slice a5 0 c5, .int .i64 2] 25) := by rw [hWA]; exact World.alloc_heap_new w1 _
  have h2 := H2.out WA ((HM.out.later HB1.out).later hbA)
  have h2' : Calls Tryd.prog 7 #[.string ⟨#[117, 110, 105, 116, 32, 119, 101, 98, 10, 102, 105, 108, 101, 32, 98, 105, 110, 10]⟩] WA _ := h2
  have HbA := Lib.hid hbA
  have HA := Lib.hid hA
  clear h2 hbA hA
  have en : toB exU.name = ⟨#[119, 101, 98]⟩ := rfl
  have er : retU exU = 2 := rfl
  go_wp2_with fail
  rw [← hWA]
  refine h2'.mono ?_
  rintro e w2 ⟨⟨v, rfl, hV2⟩, hb2⟩
  obtain ⟨x0, x1, x2, x3, x4, x5, k0, k1, k2, k3, k4, k5, rfl, hk, h4⟩ := hV2
  obtain ⟨b0, d0, rfl, _⟩ := h4.s0
  obtain ⟨b1, d1, rfl, _⟩ := h4.s1
  obtain ⟨b2, d2, rfl, _⟩ := h4.s2
  obtain ⟨b3, d3, rfl, _⟩ := h4.s3
  obtain ⟨b4, d4, rfl, _⟩ := h4.s4
  obtain ⟨b5, d5, rfl, _⟩ := h4.s5
  have HBx := Lib.hid (HbA.out.trans (hb2.mono (HbA.out.size)))
  have hA2 : w2.heap[w1.heap.size]? = some (.cells #[.string ⟨#[119, 101, 98]⟩, .slice a0 1 c0, .slice a1 1 c1, .slice a2 0 c2, .slice (some ⟨g, o, none⟩) 1 c3, .slice a4 0 c4, .slice a5 0 c5, .int .i64 2] 25) := (hb2.block _ (lt_of_heap HA.out)).trans HA.out
  have hdb2 : w2.cell? ⟨g, o, none⟩ = some (.string ⟨#[100, 98]⟩) := by
    rw [HBx.out.cell (p := ⟨g, o, none⟩) HG.out]; exact hdb
  have hlt := HBx.out.size
  obtain ⟨WB, hWB⟩ : ∃ WB, WB = w2.alloc (.cells #[.string (toB UD0.name), .slice b0 k0.length d0, .slice b1 k1.length d1, .slice b2 k2.length d2, .slice b3 k3.length d3, .slice b4 k4.length d4, .slice b5 k5.length d5, .int .i64 (retU UD0)] 25) := ⟨_, rfl⟩
  have hbB : Below w2.heap.size w2 WB := by rw [hWB]; exact (Below.refl _ _).alloc (Nat.le_refl _) _
  have hA3 : WB.heap[w1.heap.size]? = some (.cells #[.string ⟨#[119, 101, 98]⟩, .slice a0 1 c0, .slice a1 1 c1, .slice a2 0 c2, .slice (some ⟨g, o, none⟩) 1 c3, .slice a4 0 c4, .slice a5 0 c5, .int .i64 2] 25) := (hbB.block _ (lt_of_heap hA2)).trans hA2
  have hdb3 : WB.cell? ⟨g, o, none⟩ = some (.string ⟨#[100, 98]⟩) := by
    rw [hbB.cell (p := ⟨g, o, none⟩) (World.block_lt_of_cell? w2 _ hdb2)]; exact hdb2
  have u0 : WB.cell? ⟨w1.heap.size, 0, none⟩ = some (.string ⟨#[119, 101, 98]⟩) := cell_at hA3 0
  have u1 : WB.cell? ⟨w1.heap.size, 1, none⟩ = some (.slice a0 1 c0) := cell_at hA3 1
  have u2 : WB.cell? ⟨w1.heap.size, 2, none⟩ = some (.slice a1 1 c1) := cell_at hA3 2
  have u3 : WB.cell? ⟨w1.heap.size, 3, none⟩ = some (.slice a2 0 c2) := cell_at hA3 3
  have u4 : WB.cell? ⟨w1.heap.size, 4, none⟩ = some (.slice (some ⟨g, o, none⟩) 1 c3) := cell_at hA3 4
  have u5 : WB.cell? ⟨w1.heap.size, 5, none⟩ = some (.slice a4 0 c4) := cell_at hA3 5
  have u6 : WB.cell? ⟨w1.heap.size, 6, none⟩ = some (.slice a5 0 c5) := cell_at hA3 6
  have u7 : WB.cell? ⟨w1.heap.size, 7, none⟩ = some (.int .i64 2) := cell_at hA3 7
  have hbw : Below w1.heap.size w1 WB := HBx.out.trans (hbB.mono hlt)
  have htx : Calls Tryd.prog 11 #[.agg #[.string ⟨#[119, 101, 98]⟩, .slice a0 1 c0, .slice a1 1 c1, .slice a2 0 c2, .slice (some ⟨g, o, none⟩) 1 c3, .slice a4 0 c4, .slice a5 0 c5, .int .i64 2]] WB fun e w' => e = .returned (.string ⟨#[117, 110, 105, 116, 32, 119, 101, 98, 10, 102, 105, 108, 101, 32, 47, 98, 105, 110, 47, 119, 101, 98, 10, 97, 102, 116, 101, 114, 32, 100, 98, 10, 114, 101, 113, 117, 105, 114, 101, 115, 32, 100, 98, 10, 114, 101, 116, 114, 121, 32, 50, 10]⟩) ∧ Below WB.heap.size WB w' :=
    text_any WB [119, 101, 98] _ _ _ _ _ _ _ _ _ _ _ _ 2 [50] (H3.out.s0.later hbw) (H3.out.s1.later hbw) (H3.out.s2.later hbw) (H3.out.s3.later hbw) (H3.out.s4.later hbw) (H3.out.s5.later hbw) (by decide) (by decide) (by decide) (fun W _ => (itoa_small 2 (by decide) W).mono fun e w' hd => ⟨hd.1, by rw [hd.2]; exact Below.refl _ _⟩)
  have HBB := Lib.hid (HB1.out.trans (hbw.mono HB1.out.size))
  clear h2' hA2 hA3 hbw hbB hdb hdb2 hb2 hlt HA HbA hWA
  rw [hWB] at u0 u1 u2 u3 u4 u5 u6 u7 hdb3 htx HBB
  clear hWB
  go_wp2_with fail
  refine htx.mono ?_
  rintro e w4 ⟨rfl, hb4⟩
  have HB4 := Lib.hid (HBB.out.trans (hb4.mono HBB.out.size))
  clear hb4 htx
  go_wp2_with fail
  go_ret
  exact ⟨rfl, HB4.out⟩
end Go.Proofs.YtmnohaefklglfaaDoor
