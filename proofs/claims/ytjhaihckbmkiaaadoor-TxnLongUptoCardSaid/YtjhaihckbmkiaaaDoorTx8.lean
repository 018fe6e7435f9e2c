/- The document's example of package txn: the walk. -/
import Derived.Test.YtjhaihckbmkiaaaDoorTx7
namespace Go.Proofs.YtjhaihckbmkiaaaDoor
open Go.RowKit
set_option linter.unusedVariables false
set_option linter.unusedSimpArgs false
set_option maxRecDepth 100000

def exTP (H : Nat) : TxP := ⟨some ⟨H, 0, none⟩, 1, some ⟨H + 1, 0, none⟩, 1, none, 0⟩
theorem exT_at {w0 w : World} {X : List Rw} (HO : Own w0 w (X ++ [⟨9, 1, .slice (some ⟨w0.heap.size + 1, 0, none⟩) 1 1, 1, [.string ⟨#[97]⟩]⟩, boxM w0.heap.size 1 ⟨#[47, 102]⟩])) : TxAt w exT (exTP w0.heap.size) := by
  have h1 := HO.only (r := ⟨9, 1, .slice (some ⟨w0.heap.size + 1, 0, none⟩) 1 1, 1, [.string ⟨#[97]⟩]⟩) (by simp)
  have h2 := HO.only (r := boxM w0.heap.size 1 ⟨#[47, 102]⟩) (by simp)
  refine ⟨fun i hi => ?_, fun i hi => ?_, fun i hi => absurd hi (Nat.not_lt_zero _)⟩
  · obtain rfl : i = 0 := by
      have : i < 1 := hi
      omega
    exact ⟨_, _, rfl, Own.range (h := h2) 0 2⟩
  · obtain rfl : i = 0 := by
      have : i < 1 := hi
      omega
    exact ⟨_, _, rfl, Own.range (h := h1) 0 1⟩
set_option maxHeartbeats 16000000 in
theorem talive_any (w : World) (hm : Mx w) : Calls Tryd.prog 5 #[] w fun e w' => e = .returned (.bool true) ∧ Below w.heap.size w w' := by
  have hO1 := (Own.start w).made 36 2 #[.int .i64 1, .string ⟨#[47, 102]⟩] 1 rfl (by unfold maxLen; decide)
  have s1 : w.heap.size + 1 = (w.alloc (.cells #[.int .i64 1, .string ⟨#[47, 102]⟩] 36)).heap.size := by simp
  have hO2 := hO1.made_at 9 1 #[.string ⟨#[97]⟩] 1 (w.heap.size + 1) s1 rfl (by unfold maxLen; decide)
  have s2 : w.heap.size + 1 + 1 = ((w.alloc (.cells #[.int .i64 1, .string ⟨#[47, 102]⟩] 36)).alloc (.cells #[.string ⟨#[97]⟩] 9)).heap.size := by simp
  have HO := Lib.hid (show Own w _ ([rowT5 (w.heap.size + 1 + 1) [.int .i64 1, .int .i64 1, .slice (some ⟨w.heap.size, 0, none⟩) 1 1, .slice (some ⟨w.heap.size + 1, 0, none⟩) 1 1, .slice none 0 0]] ++ [⟨9, 1, .slice (some ⟨w.heap.size + 1, 0, none⟩) 1 1, 1, [.string ⟨#[97]⟩]⟩, boxM w.heap.size 1 ⟨#[47, 102]⟩]) from
    hO2.made_at 27 5 #[.int .i64 1, .int .i64 1, .slice (some ⟨w.heap.size, 0, none⟩) 1 1, .slice (some ⟨w.heap.size + 1, 0, none⟩) 1 1, .slice none 0 0] 1 (w.heap.size + 1 + 1) s2 rfl (by unfold maxLen; decide))
  have Hm := Lib.hid hm
  clear s1 s2 hO1 hO2 hm
  go_enter Tryd.func5, Tryd.ntmps5
  go_wp2_with fail
  have hpk : Calls Tryd.prog 9 #[.agg #[.int .i64 1, .int .i64 1, .slice (some ⟨w.heap.size, 0, none⟩) 1 1, .slice (some ⟨w.heap.size + 1, 0, none⟩) 1 1, .slice none 0 0]] _ _ := txpack_any exT (exTP w.heap.size) _ (exT_at HO.out) exT_fits (by rw [exT_len]; decide)
  refine hpk.mono ?_
  rintro e w2 ⟨v2, rfl, hO2⟩
  have hb2 := hO2.by (packT_byts exT exT_fits (by rw [exT_len]; decide))
  obtain ⟨a2, c2, rfl, _, _⟩ := Own.sized (h := (show Own _ w2 (⟨5, 1, v2, (packT exT).length, bs (packT exT)⟩ :: []) from hO2))
  have HX2 := Lib.hid (HO.out.later hO2.below)
  have hun := txunpack_any _ _ w2 hb2 (by rw [exT_len]; decide) (Hm.out.later HX2.out.below)
  rw [exT_back, exT_len] at hun
  rw [exT_len]
  clear hpk hO2 hb2 HO
  go_wp2_with fail
  refine hun.mono ?_
  rintro e w3 ⟨⟨am, cm, ac, cc, ag, cg⟩, L3, hO3, hI3, hres⟩
  rcases hres with ⟨_, _, rfl⟩ | ⟨hno, _⟩
  case inr => exact absurd ⟨exT_ok, rfl⟩ hno
  have hat3 := hI3.at hO3
  obtain ⟨g, o, hg, hr⟩ := hat3.moves 0 (by show 0 < 1; decide)
  obtain rfl : am = some ⟨g, o, none⟩ := hg
  have q1 : w3.cell? ⟨g, o + 1, none⟩ = some (.string ⟨#[47, 102]⟩) := by
    have := hr 1 _ rfl
    simpa using this
  have HQ := Lib.hid q1
  have hbW : Below w3.heap.size w3 (w3.alloc (.cells #[.int .i64 1, .int .i64 1, .slice (some ⟨g, o, none⟩) 1 cm, .slice ac 1 cc, .slice ag 0 cg] 27)) := (Below.refl _ w3).alloc (Nat.le_refl _) _
  have HX3 := Lib.hid ((HX2.out.later hO3.below).box5 (.int .i64 1) (.int .i64 1) (.slice (some ⟨g, o, none⟩) 1 cm) (.slice ac 1 cc) (.slice ag 0 cg) 27)
  have HQ := Lib.hid ((hbW.cell (p := ⟨g, o + 1, none⟩) (World.block_lt_of_cell? _ _ q1)).trans q1)
  clear hun hI3 hat3 hr q1 hO3 HX2 hbW
  dsimp only [exT, List.length_cons, List.length_nil, Nat.zero_add] at *
  go_wp2_with fail
  obtain ⟨H3, hH3⟩ : ∃ H3, w3.heap.size = H3 := ⟨_, rfl⟩
  rw [hH3] at HX3 ⊢
  obtain ⟨W3, hW3⟩ : ∃ W3, w3.alloc (.cells #[.int .i64 1, .int .i64 1, .slice (some ⟨g, o, none⟩) 1 cm, .slice ac 1 cc, .slice ag 0 cg] 27) = W3 := ⟨_, rfl⟩
  have e1 : H3 + 1 = W3.heap.size := by rw [← hW3, ← hH3]; simp
  rw [hW3] at HX3 HQ ⊢
  have HX4 := Lib.hid (HX3.out.made_at 5 1 #[.int .u8 1] 1 (H3 + 1) e1 rfl (by unfold maxLen; decide))
  clear hW3 hH3 e1
  have hun2 := txunpack_any _ [1] _ ((show Own w (W3.alloc (.cells #[.int .u8 1] 5)) (rowU (.slice (some ⟨H3 + 1, 0, none⟩) 1 1) [1] :: _) from HX4.out).by (by unfold Byts; decide)) (by decide) (Hm.out.later HX4.out.below)
  refine hun2.mono ?_
  rintro e w5 ⟨P5, L5, hO5, _, hres⟩
  rcases hres with ⟨_, hno, _⟩ | ⟨_, rfl⟩
  case inl => exact absurd hno one_no
  have hbW : Below W3.heap.size W3 w5 := ((Below.refl _ W3).alloc (Nat.le_refl _) _).trans (hO5.below.mono (by simp))
  have HX5 := Lib.hid ((HX4.out.later hO5.below).box5 (.int .i64 0) (.int .i64 0) (.slice none 0 0) (.slice none 0 0) (.slice none 0 0) 27)
  have hbW2 := hbW.trans (((Below.refl _ w5).alloc (Nat.le_refl _) (.cells #[.int .i64 0, .int .i64 0, .slice none 0 0, .slice none 0 0, .slice none 0 0] 27)).mono hbW.size)
  have q1 := (hbW2.cell (p := ⟨g, o + 1, none⟩) (World.block_lt_of_cell? _ _ HQ.out)).trans HQ.out
  obtain ⟨⟨c0, c1, c2', c3, c4⟩, _⟩ := t5_cells HX5.out (H := H3) (a := .int .i64 1) (b := .int .i64 1) (c := .slice (some ⟨g, o, none⟩) 1 cm) (d := .slice ac 1 cc) (e := .slice ag 0 cg) (by simp [rowT5])
  obtain ⟨⟨d0, d1, d2, d3, d4⟩, _⟩ := t5_cells HX5.out (H := w.heap.size + 1 + 1) (a := .int .i64 1) (b := .int .i64 1) (c := .slice (some ⟨w.heap.size, 0, none⟩) 1 1) (d := .slice (some ⟨w.heap.size + 1, 0, none⟩) 1 1) (e := .slice none 0 0) (by simp)
  have hex := exT_at (w0 := w) (w := w5.alloc (.cells #[.int .i64 0, .int .i64 0, .slice none 0 0, .slice none 0 0, .slice none 0 0] 27)) (X := [_, _, _, _]) HX5.out
  have HE := Lib.hid hex
  have hb5 := hO5.below
  clear hun2 hbW hbW2 hO5 HX4 HX3 HQ hex
  go_wp2_with fail
  have hri : Calls Tryd.prog 10 #[.agg #[.int .i64 1, .int .i64 1, .slice (some ⟨w.heap.size, 0, none⟩) 1 1, .slice (some ⟨w.heap.size + 1, 0, none⟩) 1 1, .slice none 0 0]] _ _ := txright_any exT (exTP w.heap.size) _ HE.out exT_fits (Hm.out.later HX5.out.below)
  rw [exT_ok] at hri
  refine hri.mono ?_
  rintro e w8 ⟨rfl, hb8⟩
  have HX8 := Lib.hid (HX5.out.later hb8)
  clear hri hb8 HX5 c0 c1 c2' c3 c4 d0 d1 d2 d3 d4 q1 HE
  go_wp2_with fail
  have hri : Calls Tryd.prog 10 #[.agg #[.int .i64 0, .int .i64 1, .slice none 0 0, .slice none 0 0, .slice none 0 0]] w8 _ := txright_any atT txNo w8 (atT_at _) atT_fits (Hm.out.later HX8.out.below)
  rw [atT_no] at hri
  refine hri.mono ?_
  rintro e w9 ⟨rfl, hb9⟩
  have HX9 := Lib.hid (HX8.out.later hb9)
  go_wp2_with fail
  go_ret
  exact ⟨rfl, HX9.out.below⟩
end Go.Proofs.YtjhaihckbmkiaaaDoor
