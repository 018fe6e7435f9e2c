/- A piece as a part, and its bytes by hand. -/
import Derived.Test.YtgkkebenbpbhnaaRTot
import Derived.Deep.RegionWith
import Derived.Deep.DrawnRows
namespace Go.Proofs.Ytgkkebenbpbhnaa
open Go.RowKit
set_option linter.unusedVariables false
set_option linter.unusedSimpArgs false

/-- What a piece is as bytes; E says it of lists of pieces one deeper. -/
def One (E : Option Addr → Nat → List (List Int) → Prop) (w : World) (deep : Nat) (k N : Int) (bv : Value) (la : Option Addr) (ln : Nat) (zs : List Int) : Prop :=
  Byts zs ∧ (∃ ba bl bc, bv = .slice ba bl bc) ∧ 0 ≤ N ∧ N < 4294967296 ∧
  ((k = 1 ∧ ∃ ys, By w bv ys ∧ ys.length ≤ 1000 ∧ zs = sizedL ys) ∨
   (k = 2 ∧ deep < 4 ∧ ∃ yss, E la ln yss ∧ yss.flatten.length ≤ 4000 ∧ yss.length ≤ 1000 ∧ zs = sizedL yss.flatten) ∨
   (k ≠ 1 ∧ ¬ (k = 2 ∧ deep < 4) ∧ zs = le4 N))
/-- n pieces that lie at a, each as bytes. -/
def Enc : Nat → Nat → World → Option Addr → Nat → List (List Int) → Prop
  | 0, _, _, _, n, zss => n = 0 ∧ zss = []
  | f + 1, deep, w, a, n, zss => zss.length = n ∧ ∀ i (h : i < zss.length), ∃ (b off : Nat) (k N : Int) (bv : Value) (la : Option Addr) (ln lc : Nat),
      a = some ⟨b, off, none⟩ ∧ w.rangeAt b (off + i * 4) (pcCells k N bv la ln lc) ∧ One (Enc f (deep + 1) w) w deep k N bv la ln zss[i]
theorem One.mono {E E' : Option Addr → Nat → List (List Int) → Prop} {w w' : World} {deep : Nat} {k N : Int} {bv : Value} {la : Option Addr} {ln : Nat} {zs : List Int} (h : One E w deep k N bv la ln zs) (hb : Below w.heap.size w w') (hE : ∀ yss, E la ln yss → E' la ln yss) : One E' w' deep k N bv la ln zs := by
  obtain ⟨h1, h2, h3, h4, h5⟩ := h
  refine ⟨h1, h2, h3, h4, ?_⟩
  rcases h5 with ⟨k1, ys, y1, y2⟩ | ⟨k2, d4, yss, y1, y2⟩ | h5
  · exact .inl ⟨k1, ys, y1.later hb, y2⟩
  · exact .inr (.inl ⟨k2, d4, yss, hE _ y1, y2⟩)
  · exact .inr (.inr h5)
theorem Enc.later (f : Nat) : ∀ {deep : Nat} {w w' : World} {a : Option Addr} {n : Nat} {zss : List (List Int)}, Enc f deep w a n zss → Below w.heap.size w w' → Enc f deep w' a n zss := by
  induction f with
  | zero => intro deep w w' a n zss h _; exact h
  | succ f ih =>
    intro deep w w' a n zss h hb
    obtain ⟨h1, h2⟩ := h
    refine ⟨h1, fun i hi => ?_⟩
    obtain ⟨b, off, k, N, bv, la, ln, lc, e1, e2, e3⟩ := h2 i hi
    exact ⟨b, off, k, N, bv, la, ln, lc, e1, rangeAt_later e2 hb, e3.mono hb fun yss hy => ih hy hb⟩
theorem Enc.byts (f : Nat) {deep : Nat} {w : World} {a : Option Addr} {n : Nat} {zss : List (List Int)} (h : Enc f deep w a n zss) : Byts zss.flatten := by
  cases f with
  | zero => obtain ⟨_, rfl⟩ := h; exact Byts.nil
  | succ f =>
    intro z hz
    obtain ⟨l, hl, hz⟩ := List.mem_flatten.1 hz
    obtain ⟨i, hi, rfl⟩ := List.getElem_of_mem hl
    obtain ⟨b, off, k, N, bv, la, ln, lc, _, _, e3⟩ := h.2 i hi
    exact e3.1 z hz
theorem exists_list {α : Type} (n : Nat) (p : Nat → α → Prop) (h : ∀ i, i < n → ∃ x, p i x) : ∃ l : List α, l.length = n ∧ ∀ i (hi : i < l.length), p i l[i] := by
  induction n with
  | zero => exact ⟨[], rfl, fun i hi => by simp at hi⟩
  | succ n ih =>
    obtain ⟨l, h1, h2⟩ := ih fun i hi => h i (by omega)
    obtain ⟨x, hx⟩ := h n (by omega)
    refine ⟨l ++ [x], by simp [h1], fun i hi => ?_⟩
    by_cases hin : i < l.length
    · rw [List.getElem_append_left hin]; exact h2 i hin
    · have : i = n := by simp at hi; omega
      subst this
      rw [List.getElem_append_right (by omega)]
      simpa [h1] using hx
theorem flat_le (zss : List (List Int)) (ts : List Nat) (hl : zss.length = ts.length) (h : ∀ i (hi : i < zss.length) (hj : i < ts.length), zss[i].length ≤ 4 * ts[i]) : ∀ k, k ≤ zss.length → (zss.take k).flatten.length ≤ 4 * (ts.take k).sum := by
  intro k
  induction k with
  | zero => intro _; simp
  | succ k ih =>
    intro hk
    have h1 := ih (by omega)
    have h2 := h k (by omega) (by omega)
    rw [sum_take_succ ts k (by omega), List.take_succ_eq_append_getElem (show k < zss.length by omega), List.flatten_append, List.length_append]
    simp only [List.flatten_cons, List.flatten_nil, List.append_nil]
    omega
theorem elem_le_sum (ts : List Nat) (i : Nat) (h : i < ts.length) : ts[i] ≤ ts.sum := by
  have h1 := sum_take_succ ts i h
  have h2 := sum_take_le ts (i + 1)
  omega
theorem le4_length (n : Int) : (le4 n).length = 4 := rfl
/-- Within the bound all of it is bytes. -/
theorem Tot.enc (f : Nat) : ∀ {deep : Nat} {w : World} {a : Option Addr} {n t : Nat}, Tot f w a n t → t ≤ 1000 → ∃ zss, Enc f deep w a n zss ∧ zss.flatten.length ≤ 4 * t ∧ n ≤ t := by
  induction f with
  | zero => intro deep w a n t h _; exact ⟨[], ⟨h.1, rfl⟩, by simp, by rw [h.1]; exact Nat.zero_le _⟩
  | succ f ih =>
    intro deep w a n t h ht
    obtain ⟨ts, h1, h2, h0, h3⟩ := h
    have hex : ∀ i, i < n → ∃ zs : List Int, (∃ (b off : Nat) (k N : Int) (bv : Value) (la : Option Addr) (ln lc : Nat), a = some ⟨b, off, none⟩ ∧ w.rangeAt b (off + i * 4) (pcCells k N bv la ln lc) ∧ One (Enc f (deep + 1) w) w deep k N bv la ln zs) ∧ ∀ hj : i < ts.length, zs.length ≤ 4 * ts[i] := by
      intro i hi
      have hit : i < ts.length := by omega
      obtain ⟨b, off, k, N, bv, la, ln, lc, zs, u, e1, e2, e3, e4, e5, e6, e7, e8⟩ := h3 i hit
      have hle := elem_le_sum ts i hit
      obtain ⟨ba, bc, hbv⟩ := e5.form
      by_cases k1 : k = 1
      · refine ⟨sizedL zs, ⟨b, off, k, N, bv, la, ln, lc, e1, e2, sizedL_byts zs e5.2.1 (by omega), ⟨_, _, _, hbv⟩, e3, e4, .inl ⟨k1, zs, e5, by omega, rfl⟩⟩, fun hj => by rw [sizedL_length]; omega⟩
      · by_cases k2 : k = 2 ∧ deep < 4
        · obtain ⟨yss, y1, y2, y3⟩ := ih (deep := deep + 1) e7 (by omega)
          have hyl : yss.length = ln := by
            cases f with
            | zero => rw [y1.1, y1.2]; rfl
            | succ f => exact y1.1
          refine ⟨sizedL yss.flatten, ⟨b, off, k, N, bv, la, ln, lc, e1, e2, sizedL_byts _ (Enc.byts f y1) (by omega), ⟨_, _, _, hbv⟩, e3, e4, .inr (.inl ⟨k2.1, k2.2, yss, y1, by omega, by omega, rfl⟩)⟩, fun hj => by rw [sizedL_length]; omega⟩
        · exact ⟨le4 N, ⟨b, off, k, N, bv, la, ln, lc, e1, e2, le4_byts N e3 e4, ⟨_, _, _, hbv⟩, e3, e4, .inr (.inr ⟨k1, k2, rfl⟩)⟩, fun hj => by rw [le4_length]; omega⟩
    obtain ⟨zss, hz1, hz2⟩ := exists_list n _ hex
    refine ⟨zss, ⟨hz1, fun i hi => (hz2 i hi).1⟩, ?_, ?_⟩
    · have := flat_le zss ts (by omega) (fun i hi hj => (hz2 i hi).2 hj) zss.length (Nat.le_refl _)
      rw [List.take_length, List.take_of_length_le (by omega)] at this
      omega
    · have : ∀ k, k ≤ ts.length → k ≤ (ts.take k).sum := by
        intro k
        induction k with
        | zero => intro _; exact Nat.zero_le _
        | succ k ihk =>
          intro hk
          have q1 := ihk (by omega)
          obtain ⟨b, off, kk, N, bv, la, ln, lc, zs, u, e1, e2, e3, e4, e5, e6, e7, e8⟩ := h3 k (by omega)
          rw [sum_take_succ ts k (by omega)]
          omega
      have := this ts.length (Nat.le_refl _)
      rw [List.take_length] at this
      omega

/-- The closure that makes four bytes of a number. -/
theorem four_any (n : Int) (w : World) (h0 : 0 ≤ n) (h1 : n < 4294967296) :
    Calls Try.prog 26 #[.int .u32 n] w fun e w' => ∃ v, e = .returned v ∧ Own w w' [rowU v (le4 n)] := by
  go_enter Try.func26, Try.ntmps26
  go_wp2_with fail
  go_ret
  exact ⟨_, rfl, (Own.start w).made 5 1 #[.int .u8 (n % 256), .int .u8 (n / 256 % 256), .int .u8 (n / 65536 % 256), .int .u8 (n / 16777216)] 4 rfl (by unfold maxLen; decide)⟩

def PartAt (w : World) (zs : List Int) (e : Ending) (w' : World) : Prop := ∃ v1 v2, e = .returned (.tuple #[v1, v2]) ∧ Own w w' [rowU v1 zs, rowU v2 zs]

/-- A piece in a box. -/
def rowP (H : Nat) (k N : Int) (bv : Value) (la : Option Addr) (ln lc : Nat) : Rw := ⟨29, 4, .slice (some ⟨H, 0, none⟩) 1 1, 1, pcCells k N bv la ln lc⟩
theorem rowP_cells {W0 w : World} {H : Nat} {k N : Int} {bv : Value} {la : Option Addr} {ln lc : Nat} {M : List Rw} (h : Own W0 w M) (hm : rowP H k N bv la ln lc ∈ M) :
    w.cell? ⟨H, 0, none⟩ = some (.int .i64 k) ∧ w.cell? ⟨H, 1, none⟩ = some (.int .u32 N) ∧ w.cell? ⟨H, 2, none⟩ = some bv ∧ w.cell? ⟨H, 3, none⟩ = some (.slice la ln lc) ∧ w.rangeAt H 0 (pcCells k N bv la ln lc) ∧ H < w.heap.size := by
  have h1 := h.only hm
  refine ⟨Own.cell (h := h1) 0 (by decide), Own.cell (h := h1) 1 (by decide), Own.cell (h := h1) 2 (by decide), Own.cell (h := h1) 3 (by decide), ?_, (h1.lt (List.mem_cons_self ..) (k := H) rfl).2⟩
  have := Own.range (h := h1) 0 4
  rw [List.drop_zero] at this
  exact this
theorem Own.piece {W0 w : World} {L : List Rw} (h : Own W0 w L) (k N : Int) (bv : Value) (la : Option Addr) (ln lc : Nat) : Own W0 (w.alloc (.cells #[.int .i64 k, .int .u32 N, bv, .slice la ln lc] 29)) (rowP w.heap.size k N bv la ln lc :: L) :=
  h.made 29 4 #[.int .i64 k, .int .u32 N, bv, .slice la ln lc] 1 rfl (by unfold maxLen; decide)

set_option maxHeartbeats 1000000 in
set_option maxRecDepth 100000 in
theorem part_num (w : World) (deep : Nat) (k N : Int) (ba la : Option Addr) (bl bc ln lc : Nat) (hd : deep ≤ 4) (h1 : k ≠ 1) (h2 : ¬ (k = 2 ∧ deep < 4)) (h0 : 0 ≤ N) (hN : N < 4294967296) :
    Calls Try.prog 8 #[.agg #[.int .i64 k, .int .u32 N, .slice ba bl bc, .slice la ln lc], .int .i64 (deep : Int)] w (PartAt w (le4 N)) := by
  have e1 : (k == 1) = false := by simpa using h1
  have HO := Lib.hid ((Own.start w).piece k N (.slice ba bl bc) la ln lc)
  obtain ⟨H, hH⟩ : ∃ H, w.heap.size = H := ⟨_, rfl⟩
  rw [hH] at HO
  by_cases k2 : k = 2
  · have e2 : (k == 2) = true := by simpa using k2
    have hd4 : ¬ deep < 4 := fun h => h2 ⟨k2, h⟩
    clear k2 h1 h2
    go_enter Try.func8, Try.ntmps8
    go_wp2_with fail
    generalize w.alloc (.cells #[.int .i64 k, .int .u32 N, .slice ba bl bc, .slice la ln lc] 29) = w2 at *
    obtain ⟨c0, c1, c2, c3, _, hlt⟩ := rowP_cells HO.out (List.mem_cons_self ..)
    clear hH
    have hwr : IntKind.i64.wrap N = N := IntWalk.i64_in _ (by omega)
    go_region_with (first
      | (go_at_call 24; refine (num_any N _ h0 hN).mono ?_; rintro e w3 ⟨v3, rfl, hO3⟩; obtain ⟨a3, k3, d3, rfl⟩ := hO3.form3; have HO3 := Lib.hid (show Own w w3 ([rowU (.slice a3 k3 d3) (le4 N)] ++ [rowP H k N (.slice ba bl bc) la ln lc]) from (by first | exact HO.out.drew.join hO3 | exact HO.out.join hO3)); obtain ⟨_, b1, _, _, _, hlt3⟩ := rowP_cells HO3.out (by simp : rowP H k N (.slice ba bl bc) la ln lc ∈ _); clear hO3)
      | (go_at_call 26; refine (four_any N _ h0 hN).mono ?_; rintro e w4 ⟨v4, rfl, hO4⟩; obtain ⟨a4, k4, d4, rfl⟩ := hO4.form3; have HO4 := Lib.hid (HO3.out.join hO4); clear hO4))
    all_goals go_wp2_with fail
    all_goals go_ret2
    all_goals exact ⟨_, _, rfl, ((HO4.out.swap).of_mem (.cons_cons _ (.cons_cons _ (.cons _ (List.Sublist.refl _)))))⟩
  · have e2 : (k == 2) = false := by simpa using k2
    clear k2 h1 h2
    go_enter Try.func8, Try.ntmps8
    go_wp2_with fail
    generalize w.alloc (.cells #[.int .i64 k, .int .u32 N, .slice ba bl bc, .slice la ln lc] 29) = w2 at *
    obtain ⟨c0, c1, c2, c3, _, hlt⟩ := rowP_cells HO.out (List.mem_cons_self ..)
    clear hH
    have hwr : IntKind.i64.wrap N = N := IntWalk.i64_in _ (by omega)
    go_region_with (first
      | (go_at_call 24; refine (num_any N _ h0 hN).mono ?_; rintro e w3 ⟨v3, rfl, hO3⟩; obtain ⟨a3, k3, d3, rfl⟩ := hO3.form3; have HO3 := Lib.hid (show Own w w3 ([rowU (.slice a3 k3 d3) (le4 N)] ++ [rowP H k N (.slice ba bl bc) la ln lc]) from (by first | exact HO.out.drew.join hO3 | exact HO.out.join hO3)); obtain ⟨_, b1, _, _, _, hlt3⟩ := rowP_cells HO3.out (by simp : rowP H k N (.slice ba bl bc) la ln lc ∈ _); clear hO3)
      | (go_at_call 26; refine (four_any N _ h0 hN).mono ?_; rintro e w4 ⟨v4, rfl, hO4⟩; obtain ⟨a4, k4, d4, rfl⟩ := hO4.form3; have HO4 := Lib.hid (HO3.out.join hO4); clear hO4))
    all_goals go_wp2_with fail
    all_goals go_ret2
    all_goals exact ⟨_, _, rfl, ((HO4.out.swap).of_mem (.cons_cons _ (.cons_cons _ (.cons _ (List.Sublist.refl _)))))⟩
end Go.Proofs.Ytgkkebenbpbhnaa
