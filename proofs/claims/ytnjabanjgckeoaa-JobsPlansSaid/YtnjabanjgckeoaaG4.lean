/- lacks; apart: the same unit in rows of its own. -/
import Derived.Test.YtnjabanjgckeoaaG3
namespace Go.Proofs.Ytnjabanjgckeoaa
open Go.RowKit
open Go.ChangeMaps (setBlock)
set_option linter.unusedVariables false
set_option linter.unusedSimpArgs false
set_option maxRecDepth 100000

set_option maxHeartbeats 2000000 in
theorem lacks_any {w : World} {g bu : Nat} {xs : List UV} {us : List GU} (h : UsAt w g bu xs us) (n : Nm) :
    Calls Try.prog 21 #[.pointer (some ⟨g, 0, none⟩), .string (toB n)] w fun e w' => e = .returned (.bool (lacksU us n)) ∧ Below w.heap.size w w' := by
  have hB0 : Below w.heap.size w (w.alloc (.cells #[.pointer (some ⟨g, 0, none⟩)] 26)) := (Below.refl _ w).alloc (Nat.le_refl _) _
  obtain ⟨x, hx, hl0⟩ := h.lookup n
  have hl := hl0 _ hB0 false
  simp only [Bool.false_eq_true, if_false] at hl
  have hc := (h.later hB0).cell
  have HO0 := Lib.hid ((Own.start w).made 26 1 #[.pointer (some ⟨g, 0, none⟩)] 1 rfl (by unfold maxLen; decide))
  have hone := Lib.hid hx.one
  have hcs : (Try.prog.info? 44).map (·.size) = some x.cells.length := info_uv
  have H := Lib.hid h
  have HX := Lib.hid hx
  have h8 := Lib.hid (show (8 : Nat) = x.cells.length from rfl)
  have HE := Lib.hid (show lacksU us n = ((findU us n).re.any (fun x => !decide (x ∈ namesU us)) || (findU us n).pa.any (fun x => !decide (x ∈ namesU us))) from rfl)
  have H4 := Lib.hid (show x.cells[4]? = some x.v4 from rfl)
  have H6 := Lib.hid (show x.cells[6]? = some x.v6 from rfl)
  clear hl0 h hx hB0
  unfold UV.val at hl
  generalize toB n = nb at *
  generalize x.cells = cs at *
  go_enter Try.func21, Try.ntmps21
  go_wp2_with (refine wpList_store_new rfl 44 (.tmp 6) (.tmp 13) rfl HO0.out cs (w.heap.size + 1) (by simp) rfl rfl h8.out hcs hone.out ?_)
  intro w' HO1 _
  have hB := HO1.below
  have hU := H.out.later hB
  have hX := HX.out.later hB
  have c4 : w'.cell? ⟨w.heap.size + 1, 4, none⟩ = some x.v4 := by
    have := HO1.cell 4 (by rw [← h8.out]; decide)
    rw [this]; exact H4.out
  have c6 : w'.cell? ⟨w.heap.size + 1, 6, none⟩ = some x.v6 := by
    have := HO1.cell 6 (by rw [← h8.out]; decide)
    rw [this]; exact H6.out
  have cb : w'.cell? ⟨w.heap.size, 0, none⟩ = some (.pointer (some ⟨g, 0, none⟩)) := HO1.swap.cell 0 (by decide)
  have k1 := containsF_lb 40 #[.pointer (some ⟨w.heap.size, 0, none⟩)] (fun x => !decide (x ∈ namesU us)) (enters_of Try.func40 (by kernel_rfl) rfl) x.v4 _ w' hX.s4 (fun W y _ hb => missing_any (hU.later hb) (by rw [hb.cell (p := ⟨w.heap.size, 0, none⟩) (World.block_lt_of_cell? w' ⟨w.heap.size, 0, none⟩ cb)]; exact cb) y)
  have K2 := Lib.hid (fun w2 (hb2 : Below w'.heap.size w' w2) => containsF_lb 40 #[.pointer (some ⟨w.heap.size, 0, none⟩)] (fun x => !decide (x ∈ namesU us)) (enters_of Try.func40 (by kernel_rfl) rfl) x.v6 _ w2 (hX.s6.later hb2) (fun W y _ hb => missing_any ((hU.later hb2).later hb) (by rw [(hb2.trans (hb.mono hb2.size)).cell (p := ⟨w.heap.size, 0, none⟩) (World.block_lt_of_cell? w' ⟨w.heap.size, 0, none⟩ cb)]; exact cb) y))
  have C6 := Lib.hid c6
  have HB := Lib.hid hB
  have h6lt := Lib.hid (World.block_lt_of_cell? w' ⟨w.heap.size + 1, 6, none⟩ c6)
  clear hB hU hX cb c6 HO1
  generalize x.v4 = v4 at *
  generalize x.v6 = v6 at *
  cases hr : (findU us n).re.any (fun x => !decide (x ∈ namesU us)) with
  | true =>
    rw [hr] at k1
    have HR := Lib.hid hr
    clear hr
    go_wp2_with (go_at_call 41; refine k1.mono ?_; rintro e w' ⟨rfl, hb⟩)
    go_ret
    exact ⟨by rw [HE.out, HR.out]; rfl, HB.out.trans (hb.mono HB.out.size)⟩
  | false =>
    rw [hr] at k1
    have HR := Lib.hid hr
    clear hr
    go_wp2_with (first
      | (go_at_call 41; have _g := C6.out; clear _g; refine k1.mono ?_; rintro e w2 ⟨rfl, hb⟩; have c6 := (hb.cell (p := ⟨w.heap.size + 1, 6, none⟩) h6lt.out).trans C6.out; clear C6; have HB2 := Lib.hid hb; clear hb)
      | (go_at_call 41; refine (K2.out w2 HB2.out).mono ?_; rintro e w3 ⟨rfl, hb⟩))
    go_ret
    refine ⟨by rw [HE.out, HR.out]; rfl, HB.out.trans ((HB2.out.trans (hb.mono HB2.out.size)).mono HB.out.size)⟩
/-- The six rows of a unit. -/
def rows6 (y : UV) (u : GU) : List Rw := [rowSs y.v1 u.fi, rowSs y.v2 u.af, rowSs y.v3 u.be, rowSs y.v4 u.re, rowSs y.v5 u.wa, rowSs y.v6 u.pa]
structure Bnd (u : GU) : Prop where
  b1 : u.fi.length ≤ 1000000
  b2 : u.af.length ≤ 1000000
  b3 : u.be.length ≤ 1000000
  b4 : u.re.length ≤ 1000000
  b5 : u.wa.length ≤ 1000000
  b6 : u.pa.length ≤ 1000000
end Go.Proofs.Ytnjabanjgckeoaa
