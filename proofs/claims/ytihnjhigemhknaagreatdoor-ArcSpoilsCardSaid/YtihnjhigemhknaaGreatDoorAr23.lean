/- Read in one form; the document's example. -/
import Derived.Test.YtihnjhigemhknaaGreatDoorAr22
import Derived.Lib.SlBytesConst
namespace Go.Proofs.YtihnjhigemhknaaGreatDoor
open Go.RowKit
set_option linter.unusedVariables false
set_option linter.unusedSimpArgs false
set_option maxRecDepth 100000

theorem says_same {zs : List Int} {D D' : PkgD} (h : Says zs D) (h' : Says zs D') : SameP D D' :=
  ⟨by rw [h'.name, h.name], by rw [h'.ver, h.ver], by rw [h'.needs, h.needs], by rw [h'.confs, h.confs], by rw [h'.files, h.files], by rw [h'.units, h.units]⟩
theorem fits_len {zs : List Int} (h : sumFits zs) : 4 ≤ zs.length := by
  have := congrArg List.length h
  rw [List.length_drop] at this
  have e : (le4 (crcI (zs.take (zs.length - 4)))).length = 4 := rfl
  omega
theorem read_any (v : Value) (zs : List Int) (w : World) (h : By w v zs) (hl : zs.length ≤ 1000000) (hm : Mx w) :
    Calls Tryz.prog 12 #[v] w fun e w' =>
      (¬ sumFits zs ∧ e = .returned (.tuple #[(.agg #[.string ⟨#[]⟩, .string ⟨#[]⟩, .slice none 0 0, .slice none 0 0, .slice none 0 0, .slice none 0 0]), .int .i64 5]) ∧ Below w.heap.size w w') ∨
      (sumFits zs ∧ ∃ D P, Says (zs.take (zs.length - 4)) D ∧ Fits D ∧ PkAt w' D P ∧ Below w.heap.size w w' ∧
      ((pkOk D = true ∧ packP D = zs.take (zs.length - 4) ∧ e = .returned (.tuple #[(.agg #[.string D.name, .string D.ver, .slice P.an D.needs.length P.cn, .slice P.ac D.confs.length P.cc, .slice P.af D.files.length P.cf, .slice P.au D.units.length P.cu]), .int .i64 0])) ∨
       (¬(pkOk D = true ∧ packP D = zs.take (zs.length - 4)) ∧ e = .returned (.tuple #[(.agg #[.string ⟨#[]⟩, .string ⟨#[]⟩, .slice none 0 0, .slice none 0 0, .slice none 0 0, .slice none 0 0]), .int .i64 4])))) := by
  by_cases hz : zs.length < 4
  · exact (read_short v zs w h hz).mono fun e w' ⟨h1, h2⟩ => .inl ⟨fun hf => absurd (fits_len hf) (by omega), h1, h2⟩
  · obtain ⟨g, o, c, rfl, _⟩ := h.cells (by omega)
    have hm4 : zs.length = (zs.length - 4) + 4 := by omega
    by_cases hs : le4 (crcI (zs.take (zs.length - 4))) = zs.drop (zs.length - 4)
    · have hfit : ∀ D, Says (zs.take (zs.length - 4)) D → Fits D := fun D hD => says_fits hD (by rw [List.length_take]; omega)
      by_cases hex : ∃ D, Says (zs.take (zs.length - 4)) D ∧ pkOk D = true
      · obtain ⟨D0, hD0, hk0⟩ := hex
        exact (read_right g o c zs w h (zs.length - 4) hm4 hs (by omega) hm hfit (fun D hD => by rw [pkOk_same (says_same hD0 hD)]; exact hk0)).mono fun e w' ⟨D, P, a, b, c', d⟩ => .inr ⟨hs, D, P, a, hfit D a, b, c', d⟩
      · exact (read_wrong g o c zs w h (zs.length - 4) hm4 hs (by omega) hm hfit (fun D hD => by
          cases hq : pkOk D with
          | false => rfl
          | true => exact absurd ⟨D, hD, hq⟩ hex)).mono fun e w' ⟨D, P, a, b, c', d⟩ => .inr ⟨hs, D, P, a, hfit D a, b, c', d⟩
    · exact (read_sum g o c zs w h (zs.length - 4) hm4 hs).mono fun e w' ⟨h1, h2⟩ => .inl ⟨hs, h1, h2⟩
theorem fits_small {D : PkgD} (h : SmallD D) : (packP D).length ≤ 100000 := by
  have a := flat_le packN 1000 D.needs (fun n hn => by have := h.need n hn; unfold packN; rw [List.length_append, List.length_append, sizedL_length, sizedL_length, sb_length, sb_length]; show _ + (4 + _) ≤ _; omega)
  have b := flat_le textL 1000 D.confs (fun n hn => by have := h.conf n hn; rw [textL_len]; omega)
  have c := flat_le packF 1000 D.files (fun n hn => by have := h.file n hn; unfold packF; rw [List.length_append, List.length_append, sizedL_length, sizedL_length, sb_length]; show _ + (4 + _) ≤ _; omega)
  have d := flat_le textL 1000 D.units (fun n hn => by have := h.unit n hn; rw [textL_len]; omega)
  have h1 := h.needs
  have h2 := h.confs
  have h3 := h.files
  have h4 := h.units
  have h5 := h.name
  have h6 := h.ver
  unfold packP
  rw [List.length_append, List.length_append, List.length_append, List.length_append, List.length_append, textL_len, textL_len, sizedL_length, sizedL_length, sizedL_length, sizedL_length]
  omega
/-- What was written is read as it. -/
theorem read_own (D : PkgD) (hs : SmallD D) (hk : pkOk D = true) (v : Value) (w : World) (h : By w v (writeP D)) (hm : Mx w) :
    Calls Tryz.prog 12 #[v] w fun e w' => ∃ D' P', SameP D D' ∧ Fits D' ∧ PkAt w' D' P' ∧ Below w.heap.size w w' ∧ e = .returned (.tuple #[(.agg #[.string D'.name, .string D'.ver, .slice P'.an D'.needs.length P'.cn, .slice P'.ac D'.confs.length P'.cc, .slice P'.af D'.files.length P'.cf, .slice P'.au D'.units.length P'.cu]), .int .i64 0]) := by
  have hlen := fits_small hs
  have hl : (writeP D).length = (packP D).length + 4 := by unfold writeP; rw [List.length_append]; rfl
  have ht : (writeP D).take ((writeP D).length - 4) = packP D := by rw [hl, Nat.add_sub_cancel]; unfold writeP; rw [List.take_left' rfl]
  have hf : sumFits (writeP D) := fits_own (packP D)
  refine (read_any v (writeP D) w h (by omega) hm).mono fun e w' hd => ?_
  rw [ht] at hd
  obtain ⟨h1, h2, h3, h4⟩ := small_flat hs
  rcases hd with ⟨hn, _⟩ | ⟨_, D', P', hD, hF, hP, hb, ha⟩
  · exact absurd hf hn
  · have hsame := says_pack D D' hD hs.fits (few_of hk).ways h1 h2 h3 h4
    rcases ha with ⟨_, _, e1⟩ | ⟨hno, _⟩
    · exact ⟨D', P', hsame, hF, hP, hb, e1⟩
    · exact absurd ⟨(pkOk_same hsame).trans hk, packP_same hsame⟩ hno
/-- Such bytes are there in whatever world. -/
theorem by_lit (w : World) (C : Array Value) (T : TypeId) (mk : Nat × Nat) (zs : List Int) (hC : C.toList = bs zs) (hz : Byts zs) (hl : zs.length ≤ 1000) : By (w.alloc (.cells C T mk)) (.slice (some ⟨w.heap.size, 0, none⟩) zs.length zs.length) zs := by
  refine ⟨.inr ⟨_, _, rfl, fun j u hj => ?_, bs_one _⟩, hz, _, zs.length, rfl, Nat.le_refl _, by unfold maxLen; omega⟩
  have hb : (w.alloc (.cells C T mk)).heap[w.heap.size]? = some (.cells C T mk) := by
    show (w.heap.push _)[w.heap.size]? = _
    simp
  rw [Addr.add_mid, Nat.zero_add, cell_of_block hb, ← hj, ← hC]
  simp
theorem by_lit_at (w : World) (C : Array Value) (T : TypeId) (mk : Nat × Nat) (zs : List Int) (g : Nat) (hg : g = w.heap.size) (hC : C.toList = bs zs) (hz : Byts zs) (hl : zs.length ≤ 1000) : By (w.alloc (.cells C T mk)) (.slice (some ⟨g, 0, none⟩) zs.length zs.length) zs := by
  subst hg
  exact by_lit w C T mk zs hC hz hl
theorem conv_constA (W : World) (C : Array Value) (n c : Nat) : Sem.run Tryz.prog (convert 34 34 (.slice (some ⟨W.heap.size, 0, none⟩) n c)) (W.alloc (.cells C 5)) = .ok (.slice (some ⟨W.heap.size, 0, none⟩) n c) (W.alloc (.cells C 5 (C.size, C.size + 1))) := Lib.run_convert_bytes_const W 34 5 C n c Tryz.underlying34 Tryz.underlying5
theorem conv_const_at (W : World) (C : Array Value) (n c g : Nat) (hg : g = W.heap.size) : Sem.run Tryz.prog (convert 34 34 (.slice (some ⟨g, 0, none⟩) n c)) (W.alloc (.cells C 5)) = .ok (.slice (some ⟨g, 0, none⟩) n c) (W.alloc (.cells C 5 (C.size, C.size + 1))) := by
  subst hg
  exact conv_constA W C n c
/-- The example: a package of one file. -/
def exD (H : Nat) : PkgD := ⟨⟨#[97]⟩, ⟨#[49]⟩, [], [], [⟨⟨#[47, 102]⟩, false, some ⟨H, 0, none⟩, 1, [120]⟩], []⟩
def exP (H : Nat) : PkL := ⟨none, 0, none, 0, some ⟨H, 0, none⟩, 1, none, 0⟩
theorem ex_ok (H : Nat) : pkOk (exD H) = true := by kernel_rfl
theorem ex_small (H : Nat) : SmallD (exD H) :=
  ⟨(by show ByteArray.size ⟨#[97]⟩ ≤ 60; decide), (by show ByteArray.size ⟨#[49]⟩ ≤ 60; decide), (by show 0 ≤ 20; decide), (fun n hn => by cases hn), (by show 0 ≤ 20; decide), (fun n hn => by cases hn), (by show 1 ≤ 20; decide), (fun f hf => by
    obtain rfl : f = _ := List.mem_singleton.1 hf
    exact ⟨(by show ByteArray.size ⟨#[47, 102]⟩ ≤ 60; decide), (by show 1 ≤ 600; decide)⟩), (by show 0 ≤ 20; decide), (fun n hn => by cases hn)⟩
theorem ex_len (H : Nat) : (writeP (exD H)).length = 45 := by
  unfold writeP
  rw [List.length_append]
  have : (packP (exD H)).length = 41 := by kernel_rfl
  rw [this]
  rfl
/-- The package of nothing. -/
def noD : PkgD := ⟨⟨#[]⟩, ⟨#[]⟩, [], [], [], []⟩
def noP : PkL := ⟨none, 0, none, 0, none, 0, none, 0⟩
theorem no_at (w : World) : PkAt w noD noP := ⟨fun i hi => absurd hi (Nat.not_lt_zero _), fun i hi => absurd hi (Nat.not_lt_zero _), fun i hi => absurd hi (Nat.not_lt_zero _), fun i hi => absurd hi (Nat.not_lt_zero _), fun f hf => (by cases hf), Nat.le_refl _⟩
theorem no_fits : Fits noD := ⟨by decide, by decide, by decide, fun n hn => (by cases hn), by decide, fun n hn => (by cases hn), by decide, fun n hn => (by cases hn), by decide, fun n hn => (by cases hn)⟩
theorem no_ok : pkOk noD = false := by kernel_rfl
theorem four_no : ¬ sumFits [102, 111, 117, 114] := by
  unfold sumFits
  decide +kernel
end Go.Proofs.YtihnjhigemhknaaGreatDoor
