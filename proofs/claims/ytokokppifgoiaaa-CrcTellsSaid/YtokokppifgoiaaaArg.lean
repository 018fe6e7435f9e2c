/- Bytes that came in, and bytes behind what the call made. -/
import Derived.Test.YtokokppifgoiaaaAlive
import Derived.Test.YtokokppifgoiaaaRef
import Derived.WideShapes
namespace Go.Proofs.Ytokokppifgoiaaa
set_option linter.unusedVariables false
set_option linter.unusedSimpArgs false
open Go.RowKit Go.WideShapes

/-- A slice of integers that came in: it is nil, or it leads to a row of 'cap' cells; the first 'len' are its elements. -/
def IsRow (k : IntKind) (w : World) (a : Option Addr) (len cap : Nat) (zs : List Int) : Prop :=
  (a = none ∧ len = 0 ∧ cap = 0 ∧ zs = []) ∨
  ∃ x, a = some x ∧ len ≤ cap ∧ cap ≤ maxLen ∧ zs.length = cap ∧ (∀ i, i < zs.length → w.cell? (x.add i) = some (.int k (zs.getD i 0))) ∧ ∀ n ∈ zs, (Lit.int k n).wf = true

theorem wf_u8 {n : Int} (h : (Lit.int .u8 n).wf = true) : 0 ≤ n ∧ n < 256 := by
  have h1 : IntKind.u8.min = 0 := rfl
  have h2 : IntKind.u8.max = 255 := rfl
  simp only [Lit.wf, Bool.and_eq_true, decide_eq_true_eq] at h
  omega

theorem IsRow.bytes {w : World} {a : Option Addr} {len cap : Nat} {zs : List Int} (h : IsRow .u8 w a len cap zs) : IsBytes w (.slice a len cap) (zs.take len) ∧ (zs.take len).length = len := by
  rcases h with ⟨rfl, rfl, rfl, rfl⟩ | ⟨x, rfl, hl, hm, hz, hcell, hwz⟩
  · exact ⟨⟨none, 0, rfl, ⟨by simp, by omega, fun _ => rfl⟩, fun h => absurd rfl h, by simp⟩, rfl⟩
  · have e : (zs.take len).length = len := by rw [List.length_take]; omega
    refine ⟨⟨some x, cap, by rw [e], ⟨by omega, by unfold maxLen at hm; omega, fun h => by cases h⟩, fun hne => ?_, fun n hn => wf_u8 (hwz n (List.mem_of_mem_take hn))⟩, e⟩
    obtain ⟨b, off, spot⟩ := x
    have hlen : 0 < len := by
      rcases Nat.eq_zero_or_pos len with h0 | h0
      · subst h0; exact absurd (List.take_zero) hne
      · exact h0
    have hspot : spot = none := by simpa [Addr.add] using World.cell?_spot (hcell 0 (by omega))
    subst hspot
    refine ⟨b, off, rfl, fun j hj => ?_⟩
    rw [e] at hj
    have hc := hcell j (by omega)
    have e2 : (zs.take len).getD j 0 = zs.getD j 0 := by simp [List.getD_eq_getElem?_getD, hj]
    rw [e2, ← add_plain]
    exact hc

theorem IsBytes.below {w w' : World} {v : Value} {zs : List Int} (h : IsBytes w v zs) (hb : Below w.heap.size w w') : IsBytes w' v zs := by
  obtain ⟨a, cap, hv, hl, hz, hw⟩ := h
  refine ⟨a, cap, hv, hl, fun hne => ?_, hw⟩
  obtain ⟨b, off, ha, hc⟩ := hz hne
  exact ⟨b, off, ha, fun j hj => (hb.cell (p := ⟨b, off + j, none⟩) (World.block_lt_of_cell? w _ (hc j hj))).trans (hc j hj)⟩

/-- Rows of bytes, laid in a new block. -/
theorem rows_one {W : World} {v : Value} {zs : List Int} (R : Nat) (hc : W.cell? ⟨R, 0, none⟩ = some v) (h : IsBytes W v zs) :
    ∀ i (h : i < [(v, zs)].length), W.cell? ⟨R, i, none⟩ = some [(v, zs)][i].1 ∧ IsBytes W [(v, zs)][i].1 [(v, zs)][i].2 := by
  intro i hi
  obtain rfl : i = 0 := by simp at hi; omega
  exact ⟨hc, h⟩

/-- 'crc.Of' of one slice of bytes. -/
theorem of_one (R : Nat) (v : Value) (zs : List Int) (w : World) (hc : w.cell? ⟨R, 0, none⟩ = some v) (h : IsBytes w v zs) :
    Calls Try.prog 7 #[.slice (some ⟨R, 0, none⟩) 1 1] w fun e w' => e = .returned (.int .u32 ((crc zs).toNat : Int)) ∧ w = w' := by
  refine (of_any R 1 [(v, zs)] w (by simp) (rows_one R hc h)).mono ?_
  rintro e w' ⟨rfl, rfl⟩
  exact ⟨by simp, rfl⟩
/-- 'crc.Of' of two. -/
theorem of_two (R : Nat) (v u : Value) (zs ys : List Int) (w : World) (hc : w.cell? ⟨R, 0, none⟩ = some v) (hd : w.cell? ⟨R, 1, none⟩ = some u) (h : IsBytes w v zs) (k : IsBytes w u ys) :
    Calls Try.prog 7 #[.slice (some ⟨R, 0, none⟩) 2 2] w fun e w' => e = .returned (.int .u32 ((crc (zs ++ ys)).toNat : Int)) ∧ w = w' := by
  refine (of_any R 2 [(v, zs), (u, ys)] w (by simp) ?_).mono ?_
  · intro i hi
    have hi' : i = 0 ∨ i = 1 := by simp at hi; omega
    rcases hi' with rfl | rfl
    · exact ⟨hc, h⟩
    · exact ⟨hd, k⟩
  · rintro e w' ⟨rfl, rfl⟩
    exact ⟨by simp, rfl⟩
end Go.Proofs.Ytokokppifgoiaaa
