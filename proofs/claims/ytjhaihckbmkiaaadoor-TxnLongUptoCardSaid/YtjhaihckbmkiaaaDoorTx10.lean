/- An upgrade that came in by value, with its bulk. -/
import Derived.Test.YtjhaihckbmkiaaaDoorTx0
import Derived.Test.YtjhaihckbmkiaaaDoorRows
import Derived.Deep.Slices
import Derived.Deep.Strs
import Derived.Lib.SmallJoins
import Derived.WideShapes
import Derived.ProofKit
import Derived.OpenShut
import Derived.ChangeSame
namespace Go.Proofs.YtjhaihckbmkiaaaDoor
open Go.RowKit Go.WideShapes Go.ChangeShapes Go.ChangeAt
set_option linter.unusedVariables false
set_option linter.unusedSimpArgs false
set_option maxRecDepth 100000

theorem choose_listT {β : Type} {P : Nat → β → Prop} : ∀ (n : Nat), (∀ i < n, ∃ y, P i y) → ∃ l : List β, l.length = n ∧ ∀ i (hi : i < l.length), P i l[i] := by
  intro n
  induction n with
  | zero => intro _; exact ⟨[], rfl, fun i hi => absurd hi (by simp)⟩
  | succ n ih =>
    intro h
    obtain ⟨l, h1, h2⟩ := ih fun i hi => h i (by omega)
    obtain ⟨y, hy⟩ := h n (Nat.lt_succ_self n)
    refine ⟨l ++ [y], by simp [h1], fun i hi => ?_⟩
    by_cases hin : i < l.length
    · rw [List.getElem_append_left hin]; exact h2 i hin
    · have : i = l.length := by simp at hi; omega
      subst this
      simp only [List.getElem_append_right (Nat.le_refl _), Nat.sub_self, List.getElem_cons_zero]
      rw [h1]; exact hy
theorem spot_zeroT {ad : Addr} {w : World} {v : Value} (h : w.cell? (ad.add 0) = some v) : ad.spot = none := by
  have := World.cell?_spot h
  unfold Addr.add at this
  rwa [if_pos rfl] at this
theorem spot_cellsT {w : World} {base n : Nat} {ad : Addr} {cs : List Value} (h : w.cells? base (ad.add (0 * n)) n = some cs) (hn : 0 < n) : ad.spot = none := by
  obtain ⟨_, h2, h3⟩ := World.cells?_some h
  have h0 := h3 0 hn
  rw [List.getElem?_eq_getElem (by omega), Nat.zero_mul] at h0
  have e : (ad.add 0) = ad := by unfold Addr.add; rw [if_pos rfl]
  rw [e] at h0
  exact spot_zeroT h0
theorem cells_atT {w : World} {base k n : Nat} {ad : Addr} {cs : List Value} (h : w.cells? base (ad.add k) n = some cs) (hs : ad.spot = none) : ∃ b off, ad = ⟨b, off, none⟩ ∧ w.rangeAt b (off + k) cs ∧ cs.length = n := by
  obtain ⟨_, h2, h3⟩ := World.cells?_some h
  obtain ⟨b, off, spot⟩ := ad
  have hs : spot = none := hs
  subst hs
  refine ⟨b, off, rfl, fun j v hj => ?_, h2⟩
  have hjl : j < n := by
    rw [← h2]
    exact (List.getElem?_eq_some_iff.1 hj).1
  have := h3 j hjl
  rw [Addr.add_mid, Addr.add_mid] at this
  rw [this]; exact hj
theorem bulk_in {H : Type} (D : Nat → DataW H) : ∀ (n i : Nat), i < n → Rows.uptoBulk (D i) ≤ Rows.uptoBulkAll ((List.range n).map D) := by
  have app : ∀ l r : List (DataW H), Rows.uptoBulkAll (l ++ r) = Rows.uptoBulkAll l + Rows.uptoBulkAll r := by
    intro l r
    induction l with
    | nil => simp [Rows.uptoBulkAll]
    | cons x l ih => simp only [List.cons_append, Rows.uptoBulkAll, ih]; omega
  intro n
  induction n with
  | zero => intro i h; omega
  | succ n ih =>
    intro i hi
    rw [List.range_succ, List.map_append, app]
    simp only [List.map_cons, List.map_nil, Rows.uptoBulkAll]
    by_cases h : i < n
    · have := ih i h; omega
    · obtain rfl : i = n := by omega
      omega
section
variable {H : Type} {enc : TypeId × Value → H} {P : Program} {w : World} {base : Nat} {spare : Nat → Bool} {held : Bool}
theorem trod_struct5 {t : TypeId} {f0 f1 f2 f3 f4 : Field} {fuel : Nat} {cs : List Value} {x : DataW H × List MemPlace} (ht : P.underlying t = some (.struct #[f0, f1, f2, f3, f4])) (h : DataW.trod enc P w base spare held fuel t cs = some x) :
    ∃ y0 y1 y2 y3 y4 n, x.1 = .agg [y0.1, y1.1, y2.1, y3.1, y4.1] ∧ cs.length = P.cellsOf t ∧ DataW.trod enc P w base spare held n f0.type ((cs.drop f0.offset).take (P.cellsOf f0.type)) = some y0 ∧
      DataW.trod enc P w base spare held n f1.type ((cs.drop f1.offset).take (P.cellsOf f1.type)) = some y1 ∧ DataW.trod enc P w base spare held n f2.type ((cs.drop f2.offset).take (P.cellsOf f2.type)) = some y2 ∧
      DataW.trod enc P w base spare held n f3.type ((cs.drop f3.offset).take (P.cellsOf f3.type)) = some y3 ∧ DataW.trod enc P w base spare held n f4.type ((cs.drop f4.offset).take (P.cellsOf f4.type)) = some y4 := by
  obtain ⟨xs, n, _, rfl, hl, hlen, hf⟩ := DataW.trod_struct ht h
  match xs, hlen with
  | [y0, y1, y2, y3, y4], _ => exact ⟨y0, y1, y2, y3, y4, n, rfl, hl, by simpa using hf 0 f0 rfl, by simpa using hf 1 f1 rfl, by simpa using hf 2 f2 rfl, by simpa using hf 3 f3 rfl, by simpa using hf 4 f4 rfl⟩
end
theorem cellsMove : Tryd.prog.cellsOf 36 = 2 := by kernel_rfl
theorem cellsTxn : Tryd.prog.cellsOf 27 = 5 := by kernel_rfl
theorem cellsStrT : Tryd.prog.cellsOf 9 = 1 := by kernel_rfl
theorem cellsIntT : Tryd.prog.cellsOf 3 = 1 := by kernel_rfl
theorem cellsMoves : Tryd.prog.cellsOf 24 = 1 := by kernel_rfl
theorem cellsStrsT : Tryd.prog.cellsOf 25 = 1 := by kernel_rfl
section
variable {H : Type} {enc : TypeId × Value → H} {w : World} {base fuel : Nat} {held : Bool} {v : Value} {x : DataW H × List MemPlace}
theorem str_bulk (s : ByteArray) : s.size ≤ Rows.uptoBulk (DataW.lit (.string s.data.toList) : DataW H) := by
  simp only [Rows.uptoBulk]
  have : s.data.toList.length = s.size := by simp
  omega
theorem open_moves (hf : DataW.trod enc Tryd.prog w base (fun _ => true) held fuel 24 [v] = some x) :
    ∃ (a : Option Addr) (xs : List MvD) (cap : Nat), v = .slice a xs.length cap ∧ SlcA w a 2 (xs.map fun x => x.cells) ∧ ∀ n ∈ xs, n.path.size ≤ Rows.uptoBulk x.1 := by
  rcases Go.Deep.open_slice Tryd.underlying24 hf with ⟨h1, hx⟩ | ⟨ad, len, cp, m, q, D, Pl, h1, hb, hl, hm, hmm, hxx, hx⟩
  · injection h1 with h1 _
    subst h1
    exact ⟨none, [], 0, rfl, fun i hi => absurd hi (by simp), fun n hn => by cases hn⟩
  · injection h1 with h1 _
    subst h1
    have hsp0 : 0 < len → ad.spot = none := fun h0 => by
      obtain ⟨cs, hc, _⟩ := hx 0 (by rw [hmm]; split <;> omega)
      rw [cellsMove] at hc
      exact spot_cellsT hc (by decide)
    have each : ∀ i < len, ∃ y : MvD, (∃ g off, (some ad) = some ⟨g, off, none⟩ ∧ w.rangeAt g (off + i * 2) y.cells) ∧ y.path.size ≤ Rows.uptoBulk (D i) := fun i hi => by
      obtain ⟨cs, hc, ht⟩ := hx i (by rw [hmm]; split <;> omega)
      rw [cellsMove] at hc
      obtain ⟨b, off, e, hr, hlen⟩ := cells_atT hc (hsp0 (by omega))
      obtain ⟨c0, c1, rfl⟩ : ∃ c0 c1, cs = [c0, c1] := by
        match cs, hlen with
        | [c0, c1], _ => exact ⟨c0, c1, rfl⟩
      obtain ⟨y0, y1, n', hy, hcl, t0, t1⟩ := Go.ChangeShapes.trod_struct2 Tryd.underlying36 ht
      simp only [cellsStrT, cellsIntT, List.drop_zero, List.drop_succ_cons, List.take_succ_cons, List.take_zero] at t0 t1
      obtain ⟨κ, e0, _, w0⟩ := DataW.trod_int Tryd.underlying3 t0
      obtain ⟨s1, e1, hd1, w1⟩ := DataW.trod_string Tryd.underlying9 t1
      injection e0 with e0 _; injection e1 with e1 _
      subst e0 e1
      refine ⟨⟨κ, s1⟩, ⟨b, off, by rw [e], hr⟩, ?_⟩
      have h3 : D i = .agg [y0.1, y1.1] := congrArg (·.1) hy
      rw [h3, hd1]
      have h4 := str_bulk (H := H) s1
      simp only [Rows.uptoBulk, Rows.uptoBulkAll] at h4 ⊢
      show s1.size ≤ _
      omega
    obtain ⟨l, hl1, hl2⟩ := choose_listT len each
    refine ⟨some ad, l, cp, by rw [hl1], fun i hi => ?_, fun n hn => ?_⟩
    · have hi' : i < l.length := by simpa using hi
      rw [List.getElem_map]
      exact (hl2 i hi').1
    · obtain ⟨i, hi, rfl⟩ := List.getElem_of_mem hn
      have h3 := (hl2 i hi).2
      have h4 := bulk_in D len i (by omega)
      rw [hxx]
      simp only [Rows.uptoBulk]
      omega
theorem open_strsT (hf : DataW.trod enc Tryd.prog w base (fun _ => true) held fuel 25 [v] = some x) :
    ∃ (a : Option Addr) (xs : List ByteArray) (cap : Nat), v = .slice a xs.length cap ∧ SlcA w a 1 (xs.map fun x => [Value.string x]) ∧ (∀ n ∈ xs, n.size ≤ Rows.uptoBulk x.1) ∧ (a = none → cap = 0) := by
  rcases Go.Deep.open_slice Tryd.underlying25 hf with ⟨h1, hx⟩ | ⟨ad, len, cp, m, q, D, Pl, h1, hb, hl, hm, hmm, hxx, hx⟩
  · injection h1 with h1 _
    subst h1
    exact ⟨none, [], 0, rfl, fun i hi => absurd hi (by simp), (fun n hn => by cases hn), fun _ => rfl⟩
  · injection h1 with h1 _
    subst h1
    have hsp0 : 0 < len → ad.spot = none := fun h0 => by
      obtain ⟨cs, hc, _⟩ := hx 0 (by rw [hmm]; split <;> omega)
      rw [cellsStrT] at hc
      exact spot_cellsT hc (by decide)
    have each : ∀ i < len, ∃ y : ByteArray, (∃ g off, (some ad) = some ⟨g, off, none⟩ ∧ w.rangeAt g (off + i * 1) [Value.string y]) ∧ y.size ≤ Rows.uptoBulk (D i) := fun i hi => by
      obtain ⟨cs, hc, ht⟩ := hx i (by rw [hmm]; split <;> omega)
      rw [cellsStrT] at hc
      obtain ⟨b, off, e, hr, hlen⟩ := cells_atT hc (hsp0 (by omega))
      obtain ⟨c0, rfl⟩ : ∃ c0, cs = [c0] := by
        match cs, hlen with
        | [c0], _ => exact ⟨c0, rfl⟩
      obtain ⟨s1, e0, hd1, w0⟩ := DataW.trod_string Tryd.underlying9 ht
      injection e0 with e0 _
      subst e0
      refine ⟨s1, ⟨b, off, by rw [e], hr⟩, ?_⟩
      have h3 : D i = .lit (.string s1.data.toList) := congrArg (·.1) hd1
      rw [h3]
      exact str_bulk s1
    obtain ⟨l, hl1, hl2⟩ := choose_listT len each
    refine ⟨some ad, l, cp, by rw [hl1], fun i hi => ?_, fun n hn => ?_, fun h => by cases h⟩
    · have hi' : i < l.length := by simpa using hi
      rw [List.getElem_map]
      exact (hl2 i hi').1
    · obtain ⟨i, hi, rfl⟩ := List.getElem_of_mem hn
      have h3 := (hl2 i hi).2
      have h4 := bulk_in D len i (by omega)
      rw [hxx]
      simp only [Rows.uptoBulk]
      omega
end
/-- An upgrade that came in by value. -/
theorem open_txn {H : Type} {enc : TypeId × Value → H} {W : World} {base b0 : Nat} {held : Bool} {r : Reach} {v : Value} {d : DataW H} {p : List MemPlace} (hv : Value.okWide Tryd.prog W r b0 27 v) (h : DataW.Trod enc Tryd.prog W base (fun _ => true) held 27 v d p) :
    ∃ (D : TxD) (P : TxP), v = .agg #[.int .i64 D.phase, .int .i64 D.done, .slice P.am D.moves.length P.cm, .slice P.ac D.come.length P.cc, .slice P.ag D.gone.length P.cg] ∧ TxAt W D P ∧ (∀ m ∈ D.moves, m.path.size ≤ Rows.uptoBulk d) ∧ (∀ s ∈ D.come, s.size ≤ Rows.uptoBulk d) ∧ (∀ s ∈ D.gone, s.size ≤ Rows.uptoBulk d) ∧ (P.ac = none → P.cc = 0) ∧ (P.ag = none → P.cg = 0) := by
  have hv' : ∃ cs, v = .agg cs ∧ cs.size = Tryd.prog.cellsOf 27 ∧ Row.okWide Tryd.prog W r b0 27 cs := by
    unfold Value.okWide at hv
    rw [Tryd.underlying27] at hv
    exact hv
  obtain ⟨cs, rfl, hs, _⟩ := hv'
  obtain ⟨fuel, hf⟩ := h
  rw [cellsTxn] at hs
  obtain ⟨c0, c1, c2, c3, c4, rfl⟩ : ∃ c0 c1 c2 c3 c4, cs = #[c0, c1, c2, c3, c4] := by
    obtain ⟨l⟩ := cs
    match l, hs with
    | [c0, c1, c2, c3, c4], _ => exact ⟨c0, c1, c2, c3, c4, rfl⟩
  have hf' : DataW.trod enc Tryd.prog W base (fun _ => true) held fuel 27 [c0, c1, c2, c3, c4] = some (d, p) := hf
  obtain ⟨y0, y1, y2, y3, y4, n', hy, hcl, t0, t1, t2, t3, t4⟩ := trod_struct5 Tryd.underlying27 hf'
  simp only [cellsIntT, cellsMoves, cellsStrsT, List.drop_zero, List.drop_succ_cons, List.take_succ_cons, List.take_zero] at t0 t1 t2 t3 t4
  obtain ⟨n1, e0, _, w0⟩ := DataW.trod_int Tryd.underlying3 t0
  obtain ⟨n2, e1, _, w1⟩ := DataW.trod_int Tryd.underlying3 t1
  injection e0 with e0 _; injection e1 with e1 _
  subst e0 e1
  obtain ⟨am, mv, cm, rfl, m1, m2⟩ := open_moves t2
  obtain ⟨ac, co, cc, rfl, k1, k2, k3⟩ := open_strsT t3
  obtain ⟨ag, gn, cg, rfl, g1, g2, g3⟩ := open_strsT t4
  have hy' : d = .agg [y0.1, y1.1, y2.1, y3.1, y4.1] := hy
  have hB : Rows.uptoBulk y2.1 ≤ Rows.uptoBulk d ∧ Rows.uptoBulk y3.1 ≤ Rows.uptoBulk d ∧ Rows.uptoBulk y4.1 ≤ Rows.uptoBulk d := by
    rw [hy']
    simp only [Rows.uptoBulk, Rows.uptoBulkAll]
    omega
  exact ⟨⟨n1, n2, mv, co, gn⟩, ⟨am, cm, ac, cc, ag, cg⟩, rfl, ⟨m1, k1, g1⟩, fun m hm => Nat.le_trans (m2 m hm) hB.1, fun m hm => Nat.le_trans (k2 m hm) hB.2.1, fun m hm => Nat.le_trans (g2 m hm) hB.2.2, k3, g3⟩
end Go.Proofs.YtjhaihckbmkiaaaDoor
