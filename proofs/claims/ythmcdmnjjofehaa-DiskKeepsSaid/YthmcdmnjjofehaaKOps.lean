/- The statements' list of acts, as an argument: where it lies, and that it lies there still behind calls that make memory alone. -/
import Derived.Test.YthmcdmnjjofehaaKAlive
import Derived.Deep.Slices
import Derived.Lib.SmallJoins
import Derived.WideShapes
import Derived.DeepKeys
namespace Go.Proofs.Ythmcdmnjjofehaa
open Go.RowKit Go.WideShapes Go.ChangeShapes
set_option linter.unusedVariables false
set_option linter.unusedSimpArgs false

/-- The cells of an act. -/
def opCells (k a y p : Int) : List Value := [.int .i64 k, .int .i64 a, .int .u8 y, .int .u64 p]
/-- A list of n acts lies at a. -/
def IsOps (w : World) (a : Option Addr) (n : Nat) : Prop :=
  ∀ i, i < n → ∃ (b off : Nat) (k x y p : Int), a = some ⟨b, off, none⟩ ∧ w.rangeAt b (off + i * 4) (opCells k x y p) ∧ (Lit.int .i64 x).wf = true ∧ (Lit.int .u8 y).wf = true ∧ (Lit.int .u64 p).wf = true ∧ (Lit.int .i64 k).wf = true
theorem IsOps.below {w w' : World} {a : Option Addr} {n : Nat} (h : IsOps w a n) (hb : Below w.heap.size w w') : IsOps w' a n := by
  intro i hi
  obtain ⟨b, off, k, x, y, p, ha, hr, h1, h2, h3, h4⟩ := h i hi
  exact ⟨b, off, k, x, y, p, ha, fun j v hj => (hb.cell (p := ⟨b, off + i * 4 + j, none⟩) (World.block_lt_of_cell? w _ (hr j v hj))).trans (hr j v hj), h1, h2, h3, h4⟩

theorem cells33 : Try.prog.cellsOf 33 = 4 := by kernel_rfl
theorem cellsI : Try.prog.cellsOf 3 = 1 := by kernel_rfl
theorem cellsB : Try.prog.cellsOf 5 = 1 := by kernel_rfl
theorem cellsU : Try.prog.cellsOf 28 = 1 := by kernel_rfl

theorem mapM_range_get {β : Type} {f : Nat → Option β} : ∀ (n : Nat) (l : List β), (List.range n).mapM f = some l → l.length = n ∧ ∀ i, i < n → f i = l[i]? := by
  intro n
  induction n with
  | zero => intro l h; simp at h; subst h; exact ⟨rfl, fun i hi => by omega⟩
  | succ n ih =>
    intro l h
    rw [List.range_succ, List.mapM_append] at h
    cases h1 : (List.range n).mapM f with
    | none => rw [h1] at h; simp at h
    | some l1 =>
      rw [h1] at h
      cases h2 : f n with
      | none => simp [h2] at h
      | some y =>
        simp [h2] at h
        subst h
        obtain ⟨e1, e2⟩ := ih l1 h1
        refine ⟨by simp [e1], fun i hi => ?_⟩
        by_cases hin : i = n
        · subst hin; rw [h2, List.getElem?_append_right (by omega), e1, Nat.sub_self]; rfl
        · rw [e2 i (by omega), List.getElem?_append_left (by omega)]

theorem open_ops {H : Type} {enc : TypeId × Value → H} {w : World} {base : Nat} {spare : Nat → Bool} {held : Bool} {r : Reach} {b0 : Nat} {v : Value} {d : DataW H} {p : List MemPlace} (hv : Value.okWide Try.prog w r b0 22 v)
    (h : DataW.Trod enc Try.prog w base spare held 22 v d p) : ∃ (a : Option Addr) (n cap : Nat), v = .slice a n cap ∧ IsOps w a n ∧ n ≤ maxLen := by
  obtain ⟨a, n, cap, rfl⟩ := okWide_slice Try.underlying22 hv
  obtain ⟨fuel, hf⟩ := h
  refine ⟨a, n, cap, rfl, ?_⟩
  rcases Go.Deep.open_slice Try.underlying22 hf with ⟨h1, _⟩ | ⟨ad, len, cp, m, q, D, Pl, h1, hb, hl, hm, hmm, _, hx⟩
  · have h1' : [Value.slice a n cap] = [.slice none 0 0] := h1
    injection h1' with h1' _
    injection h1' with e1 e2 e3
    subst e1 e2 e3
    exact ⟨fun i hi => by omega, Nat.zero_le _⟩
  · have h1' : [Value.slice a n cap] = [.slice (some ad) len cp] := h1
    injection h1' with h1' _
    injection h1' with e1 e2 e3
    subst e1 e2 e3
    refine ⟨fun i hi => ?_, by omega⟩
    obtain ⟨cs, hc, ht⟩ := hx i (by rw [hmm]; split <;> omega)
    rw [cells33] at hc
    obtain ⟨y0, y1, y2, y3, n', _, hcl, t0, t1, t2, t3⟩ := Go.Joins.trod_struct4 Try.underlying33 ht
    rw [cells33] at hcl
    obtain ⟨c0, c1, c2, c3, rfl⟩ : ∃ c0 c1 c2 c3, cs = [c0, c1, c2, c3] := by
      match cs, hcl with
      | [c0, c1, c2, c3], _ => exact ⟨c0, c1, c2, c3, rfl⟩
    simp only [cellsI, cellsB, cellsU, List.drop_zero, List.drop_succ_cons, List.take_succ_cons, List.take_zero] at t0 t1 t2 t3
    obtain ⟨k, e0, _, w0⟩ := DataW.trod_int Try.underlying3 t0
    obtain ⟨x, e1, _, w1⟩ := DataW.trod_int Try.underlying3 t1
    obtain ⟨y, e2, _, w2⟩ := DataW.trod_int Try.underlying5 t2
    obtain ⟨pp, e3, _, w3⟩ := DataW.trod_int Try.underlying28 t3
    injection e0 with e0 _; injection e1 with e1 _; injection e2 with e2 _; injection e3 with e3 _
    subst e0 e1 e2 e3
    unfold World.cells? at hc
    rw [if_pos (show base ≤ (ad.add (i * 4)).block from by unfold Addr.add; split <;> exact hb)] at hc
    obtain ⟨_, hg⟩ := mapM_range_get 4 _ hc
    obtain ⟨b, off, spot⟩ := ad
    have hspot : spot = none := by
      obtain ⟨cs0, hc0, _⟩ := hx 0 (by rw [hmm]; split <;> omega)
      rw [cells33] at hc0
      unfold World.cells? at hc0
      rw [if_pos (show base ≤ ((⟨b, off, spot⟩ : Addr).add (0 * 4)).block from by unfold Addr.add; split <;> exact hb)] at hc0
      obtain ⟨g1, g2⟩ := mapM_range_get 4 _ hc0
      have g3 := g2 0 (by decide)
      rw [List.getElem?_eq_getElem (by omega)] at g3
      have := World.cell?_spot g3
      simpa [Addr.add] using this
    subst hspot
    refine ⟨b, off, k, x, y, pp, rfl, fun j u hj => ?_, w1, w2, w3, w0⟩
    have hj4 : j < 4 := by
      rcases Nat.lt_or_ge j 4 with h2 | h2
      · exact h2
      · rw [List.getElem?_eq_none (by simpa [opCells] using h2)] at hj; cases hj
    have := hg j hj4
    rw [Addr.add_mid, Addr.add_mid] at this
    rw [this]; exact hj

/-! ### Sectors are bytes -/
def byteSec (s : List Value) : Prop := ∀ v ∈ s, ∃ n : Int, v = .int .u8 n ∧ (Lit.int .u8 n).wf = true
structure Dk.By (D : Dk) : Prop where
  kept : ∀ s ∈ D.kept, byteSec s
  last : ∀ s ∈ D.last, byteSec s
  since : ∀ p ∈ D.since, byteSec p.2
theorem keptTo_by (D : Dk) (h : D.By) (keeps : Int) (i : Nat) : ∀ s ∈ keptTo D keeps i, byteSec s := by
  induction i with
  | zero => exact h.kept
  | succ i ih =>
    rw [keptTo]
    split
    · rename_i p hp
      split
      · intro s hs
        rcases List.mem_or_eq_of_mem_set hs with h1 | rfl
        · exact ih s h1
        · exact h.since p (List.mem_of_getElem? hp)
      · exact ih
    · exact ih
theorem lastTo_by (D : Dk) (h : D.By) (K : List (List Value)) (hK : ∀ s ∈ K, byteSec s) (i : Nat) : ∀ s ∈ lastTo K D i, byteSec s := by
  induction i with
  | zero => exact h.last
  | succ i ih =>
    rw [lastTo]
    split
    · rename_i p hp
      intro s hs
      rcases List.mem_or_eq_of_mem_set hs with h1 | rfl
      · exact ih s h1
      · rw [List.getD_eq_getElem?_getD]
        cases hg : K[p.1]? with
        | none => intro v hv; cases hv
        | some t => exact hK t (List.mem_of_getElem? hg)
    · exact ih
theorem settleM_by (D : Dk) (h : D.By) (keeps : Int) : (settleM D keeps).By := ⟨keptTo_by D h keeps _, lastTo_by D h _ (keptTo_by D h keeps _) _, fun p hp => by cases hp⟩
theorem crashM_by (D : Dk) (h : D.By) (keeps : Int) : (crashM D keeps).By := ⟨(settleM_by D h keeps).kept, (settleM_by D h keeps).last, (settleM_by D h keeps).since⟩
theorem putM_by (D : Dk) (h : D.By) (i : Nat) (s : List Value) (hs : byteSec s) : (putM D i s).By := by
  refine ⟨h.kept, ?_, ?_⟩
  · intro t ht
    rcases List.mem_or_eq_of_mem_set ht with h1 | rfl
    · exact h.last t h1
    · exact hs
  · intro p hp
    rcases List.mem_append.1 hp with h1 | h1
    · exact h.since p h1
    · obtain rfl : p = (i, s) := by simpa using h1
      exact hs
theorem stepM_by (D : Dk) (h : D.By) : (stepM D).1.By := by
  unfold stepM
  split
  · exact ⟨h.kept, h.last, h.since⟩
  · split
    · exact ⟨h.kept, h.last, h.since⟩
    · show (crashM { D with steps := D.steps + 1, left := D.left - 1 } D.keeps).By
      exact crashM_by { D with steps := D.steps + 1, left := D.left - 1 } ⟨h.kept, h.last, h.since⟩ _
theorem writeM_by (D : Dk) (h : D.By) (at_ : Int) (s : List Value) (hs : byteSec s) : (writeM D at_ s).1.By := by
  unfold writeM
  split
  · exact h
  · exact stepM_by _ (putM_by D h _ s hs)
theorem zSec_by : byteSec zSec := fun v hv => ⟨0, (List.mem_replicate.1 hv).2, by decide⟩
theorem newM_by (n : Nat) : (newM n).By := by
  have hs : ∀ s ∈ List.replicate n zSec, byteSec s := fun s hs => by rw [(List.mem_replicate.1 hs).2]; exact zSec_by
  exact ⟨hs, hs, fun p hp => by cases hp⟩
theorem secB_by (b : Int) (hb : (Lit.int .u8 b).wf = true) : byteSec (secB b) := fun v hv => by
  rcases List.mem_cons.1 hv with rfl | hv
  · exact ⟨b, rfl, hb⟩
  · exact ⟨0, (List.mem_replicate.1 hv).2, by decide⟩

/-! ### Sectors are compared -/
theorem keyT : Try.prog.keyTypeAt 2 39 = true := by kernel_rfl
theorem cellsS : Try.prog.cellsOf 39 = 64 := by kernel_rfl
def byteLits (s : List Value) : List Lit := s.map fun v => .int .u8 (intOf v)
theorem mapM_lits (s : List Value) (hs : byteSec s) (d : Nat) : ∀ n, n ≤ s.length → ((List.range n).mapM fun i => Try.prog.keyLits (d + 1) 5 ((s.drop (i * 1)).take 1)) = some ((List.range n).map fun i => [Lit.int .u8 (intOf (s.getD i undef))]) := by
  intro n hn
  refine Go.ChangeShapes.mapM_range_of n fun i hi => ?_
  have hi' : i < s.length := by omega
  obtain ⟨m, hm, hw⟩ := hs s[i] (List.getElem_mem _)
  have e : (s.drop (i * 1)).take 1 = [s[i]] := by
    rw [Nat.mul_one, List.drop_eq_getElem_cons hi']; rfl
  rw [e, hm]
  unfold Program.keyLits
  rw [Try.underlying5]
  simp only [hw, and_self, if_true, List.getD_eq_getElem?_getD, List.getElem?_eq_getElem hi', Option.getD_some, hm, intOf]
theorem lits_of (s : List Value) (hs : byteSec s) (h64 : s.length = 64) : Try.prog.keyLits 2 39 s = some (((List.range 64).map fun i => [Lit.int .u8 (intOf (s.getD i undef))]).flatten) := by
  unfold Program.keyLits
  rw [Try.underlying39]
  simp only [cellsS, h64, if_true]
  rw [cellsB, mapM_lits s hs 0 64 (by omega)]
  rfl
theorem eqSec_same (s : List Value) (hs : byteSec s) (h64 : s.length = 64) (w : World) : (Op.equalIn 10000 39 (.agg s.toArray) (.agg s.toArray)).run Try.prog w = .ok true w := by
  have hf : (Value.agg s.toArray).formed Try.prog 39 = true := by
    unfold Value.formed
    rw [Try.underlying39]
    simp [cellsS, h64]
  obtain ⟨r, hr, hiff⟩ := run_equalIn_deep 9998 2 39 keyT w 2 2 _ _ _ _ hf hf (by simpa [Value.cells] using lits_of s hs h64) (by simpa [Value.cells] using lits_of s hs h64)
  rw [hiff.2 rfl] at hr
  exact hr
end Go.Proofs.Ythmcdmnjjofehaa
