/- The acts of LogAgain, as an argument. -/
import Derived.Test.YtpebpchnkhbcfaaLOpenArg
import Derived.DeepKeys
namespace Go.Proofs.Ytpebpchnkhbcfaa
open Go.RowKit Go.WideShapes Go.ChangeShapes
set_option linter.unusedVariables false
set_option linter.unusedSimpArgs false

/-- An act: kind, number, record (its value and its bytes), bits. -/
abbrev Act := Int × Int × (Value × List Int) × Int
def actCells (o : Act) : List Value := [.int .i64 o.1, .int .i64 o.2.1, o.2.2.1.1, .int .u64 o.2.2.2]
def Acts (w : World) (a : Option Addr) (n : Nat) : Prop :=
  ∀ i, i < n → ∃ (b off : Nat) (o : Act), a = some ⟨b, off, none⟩ ∧ w.rangeAt b (off + i * 4) (actCells o) ∧ By w o.2.2.1.1 o.2.2.1.2 ∧ (Lit.int .i64 o.1).wf = true
theorem Acts.below {w w' : World} {a : Option Addr} {n : Nat} (h : Acts w a n) (hb : Below w.heap.size w w') : Acts w' a n := by
  intro i hi
  obtain ⟨b, off, o, ha, hr, h1, h2⟩ := h i hi
  exact ⟨b, off, o, ha, fun j v hj => (hb.cell (p := ⟨b, off + i * 4 + j, none⟩) (World.block_lt_of_cell? w _ (hr j v hj))).trans (hr j v hj), h1.later hb, h2⟩
theorem cellsAct : Try.prog.cellsOf 33 = 4 := by kernel_rfl
theorem cellsActI : Try.prog.cellsOf 3 = 1 := by kernel_rfl
theorem cellsActU : Try.prog.cellsOf 31 = 1 := by kernel_rfl
theorem mapM_range_got {β : Type} {f : Nat → Option β} : ∀ (n : Nat) (l : List β), (List.range n).mapM f = some l → l.length = n ∧ ∀ i, i < n → f i = l[i]? := by
  intro n
  induction n with
  | zero => intro l h; simp at h; subst h; exact ⟨rfl, fun i hi => by omega⟩
  | succ n ih =>
    intro l h
    rw [List.range_succ, List.mapM_append] at h
    cases h1 : (List.range n).mapM f with
    | none => rw [h1] at h; simp at h
    | some l1 =>
      rw [h1] at h
      cases h2 : f n with
      | none => simp [h2] at h
      | some y =>
        simp [h2] at h
        subst h
        obtain ⟨e1, e2⟩ := ih l1 h1
        refine ⟨by simp [e1], fun i hi => ?_⟩
        by_cases hin : i = n
        · subst hin; rw [h2, List.getElem?_append_right (by omega), e1, Nat.sub_self]; rfl
        · rw [e2 i (by omega), List.getElem?_append_left (by omega)]
set_option maxRecDepth 100000 in
theorem open_acts {H : Type} {enc : TypeId × Value → H} {w : World} {base : Nat} {spare : Nat → Bool} {held : Bool} {r : Reach} {b0 : Nat} {v : Value} {d : DataW H} {p : List MemPlace} (hv : Value.okWide Try.prog w r b0 22 v)
    (h : DataW.Trod enc Try.prog w base spare held 22 v d p) (hs : ∀ b, spare b = true) : ∃ (a : Option Addr) (n cap : Nat), v = .slice a n cap ∧ Acts w a n ∧ n ≤ maxLen := by
  obtain ⟨a, n, cap, rfl⟩ := okWide_slice Try.underlying22 hv
  obtain ⟨fuel, hf⟩ := h
  refine ⟨a, n, cap, rfl, ?_⟩
  rcases Go.Deep.open_slice Try.underlying22 hf with ⟨h1, _⟩ | ⟨ad, len, cp, m, q, D, Pl, h1, hb, hl, hm, hmm, _, hx⟩
  · have h1' : [Value.slice a n cap] = [.slice none 0 0] := h1
    injection h1' with h1' _
    injection h1' with e1 e2 e3
    subst e1 e2 e3
    exact ⟨fun i hi => by omega, Nat.zero_le _⟩
  · have h1' : [Value.slice a n cap] = [.slice (some ad) len cp] := h1
    injection h1' with h1' _
    injection h1' with e1 e2 e3
    subst e1 e2 e3
    refine ⟨fun i hi => ?_, by omega⟩
    obtain ⟨cs, hc, ht⟩ := hx i (by rw [hmm]; split <;> omega)
    rw [cellsAct] at hc
    obtain ⟨y0, y1, y2, y3, n', _, hcl, t0, t1, t2, t3⟩ := Go.Joins.trod_struct4 Try.underlying33 ht
    rw [cellsAct] at hcl
    obtain ⟨c0, c1, c2, c3, rfl⟩ : ∃ c0 c1 c2 c3, cs = [c0, c1, c2, c3] := by
      match cs, hcl with
      | [c0, c1, c2, c3], _ => exact ⟨c0, c1, c2, c3, rfl⟩
    simp only [cellsActI, cellsV, cellsActU, List.drop_zero, List.drop_succ_cons, List.take_succ_cons, List.take_zero] at t0 t1 t2 t3
    obtain ⟨k, e0, _, w0⟩ := DataW.trod_int Try.underlying3 t0
    obtain ⟨x, e1, _, w1⟩ := DataW.trod_int Try.underlying3 t1
    obtain ⟨zs, hby⟩ := open_by t2 hs
    obtain ⟨pp, e3, _, w3⟩ := DataW.trod_int Try.underlying31 t3
    injection e0 with e0 _; injection e1 with e1 _; injection e3 with e3 _
    subst e0 e1 e3
    unfold World.cells? at hc
    rw [if_pos (show base ≤ (ad.add (i * 4)).block from by unfold Addr.add; split <;> exact hb)] at hc
    obtain ⟨_, hg⟩ := mapM_range_got 4 _ hc
    obtain ⟨b, off, spot⟩ := ad
    have hspot : spot = none := by
      obtain ⟨cs0, hc0, _⟩ := hx 0 (by rw [hmm]; split <;> omega)
      rw [cellsAct] at hc0
      unfold World.cells? at hc0
      rw [if_pos (show base ≤ ((⟨b, off, spot⟩ : Addr).add (0 * 4)).block from by unfold Addr.add; split <;> exact hb)] at hc0
      obtain ⟨g1, g2⟩ := mapM_range_got 4 _ hc0
      have g3 := g2 0 (by decide)
      rw [List.getElem?_eq_getElem (by omega)] at g3
      have := World.cell?_spot g3
      simpa [Addr.add] using this
    subst hspot
    refine ⟨b, off, (k, x, (c2, zs), pp), rfl, fun j u hj => ?_, hby, w0⟩
    have hj4 : j < 4 := by
      rcases Nat.lt_or_ge j 4 with h2 | h2
      · exact h2
      · rw [List.getElem?_eq_none (by simpa [actCells] using h2)] at hj; cases hj
    have := hg j hj4
    rw [Addr.add_mid, Addr.add_mid] at this
    rw [this]; exact hj
end Go.Proofs.Ytpebpchnkhbcfaa
