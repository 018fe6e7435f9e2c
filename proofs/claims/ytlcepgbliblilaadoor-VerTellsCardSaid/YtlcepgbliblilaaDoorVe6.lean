/- The document's example of package ver; its laws without the document's answer. -/
import Derived.Test.YtlcepgbliblilaaDoorVe5
namespace Go.Proofs.YtlcepgbliblilaaDoor
open Go.RowKit
set_option linter.unusedVariables false
set_option linter.unusedSimpArgs false
set_option maxRecDepth 100000

/-- Calls from some world on. -/
theorem vcmp_from {w0 : World} (hm : VMx w0) (s t : ByteArray) (hs : s.size ≤ 1000000) (ht : t.size ≤ 1000000) (x : Int) (hx : cmpV s.data.toList t.data.toList = x) : ∀ w, Below w0.heap.size w0 w → Calls Tryd.prog 9 #[.string s, .string t] w fun e w' => e = .returned (.int .i64 x) ∧ Below w0.heap.size w0 w' := fun w hb =>
  (compare_any s t w hs ht (hm.later hb)).mono fun e w' ⟨h1, h2⟩ => ⟨by rw [h1, hx], hb.trans (h2.mono hb.size)⟩
theorem vright_from {w0 : World} (hm : VMx w0) (s : ByteArray) (hs : s.size ≤ 1000000) (x : Bool) (hx : rightV s.data.toList = x) : ∀ w, Below w0.heap.size w0 w → Calls Tryd.prog 8 #[.string s] w fun e w' => e = .returned (.bool x) ∧ Below w0.heap.size w0 w' := fun w hb =>
  (vright_any s w hs (hm.later hb)).mono fun e w' ⟨h1, h2⟩ => ⟨by rw [h1, hx], hb.trans (h2.mono hb.size)⟩
theorem vfits_from {w0 : World} (hm : VMx w0) (s : ByteArray) (way : Int) (t : ByteArray) (hs : s.size ≤ 1000000) (ht : t.size ≤ 1000000) (x : Bool) (hx : fitsV s.data.toList way t.data.toList = x) : ∀ w, Below w0.heap.size w0 w → Calls Tryd.prog 11 #[.string s, .int .i64 way, .string t] w fun e w' => e = .returned (.bool x) ∧ Below w0.heap.size w0 w' := fun w hb =>
  (fits_any s way t w hs ht (hm.later hb)).mono fun e w' ⟨h1, h2⟩ => ⟨by rw [h1, hx], hb.trans (h2.mono hb.size)⟩
set_option maxHeartbeats 4000000 in
theorem valive_any (w : World) (hm : VMx w) : Calls Tryd.prog 6 #[] w fun e w' => e = .returned (.bool true) ∧ Below w.heap.size w w' := by
  have A0 := vcmp_from hm ⟨#[49, 46, 50]⟩ ⟨#[49, 46, 49, 48]⟩ (by decide) (by decide) (-1) (by decide +kernel)
  have A1 := vcmp_from hm ⟨#[49, 46, 50, 45, 49]⟩ ⟨#[49, 46, 50]⟩ (by decide) (by decide) (1) (by decide +kernel)
  have A2 := vcmp_from hm ⟨#[49, 46, 50, 46, 48]⟩ ⟨#[49, 46, 50, 45, 57]⟩ (by decide) (by decide) (1) (by decide +kernel)
  have A3 := vright_from hm ⟨#[48, 46, 57, 45, 51]⟩ (by decide) true (by decide +kernel)
  have A4 := vright_from hm ⟨#[48, 49]⟩ (by decide) false (by decide +kernel)
  have A5 := vfits_from hm ⟨#[50]⟩ 1 ⟨#[49, 46, 57]⟩ (by decide) (by decide) true (by decide +kernel)
  have A6 := vfits_from hm ⟨#[50]⟩ 3 ⟨#[49, 46, 57]⟩ (by decide) (by decide) false (by decide +kernel)
  have hb0 : Below w.heap.size w w := Below.refl _ _
  go_enter Tryd.func6, Tryd.ntmps6
  go_wp2_with fail
  refine (A0 _ hb0).mono ?_
  rintro e w1 ⟨rfl, hb1⟩
  go_wp2_with fail
  refine (A1 _ hb1).mono ?_
  rintro e w2 ⟨rfl, hb2⟩
  go_wp2_with fail
  refine (A2 _ hb2).mono ?_
  rintro e w3 ⟨rfl, hb3⟩
  go_wp2_with fail
  refine (A3 _ hb3).mono ?_
  rintro e w4 ⟨rfl, hb4⟩
  go_wp2_with fail
  refine (A4 _ hb4).mono ?_
  rintro e w5 ⟨rfl, hb5⟩
  go_wp2_with fail
  refine (A5 _ hb5).mono ?_
  rintro e w6 ⟨rfl, hb6⟩
  go_wp2_with fail
  refine (A6 _ hb6).mono ?_
  rintro e w7 ⟨rfl, hb7⟩
  go_wp2_with fail
  go_ret
  exact ⟨rfl, hb7⟩

end Go.Proofs.YtlcepgbliblilaaDoor
