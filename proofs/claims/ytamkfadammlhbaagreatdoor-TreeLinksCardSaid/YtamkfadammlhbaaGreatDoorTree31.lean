/- Do of operations that the caller has written out; what is asked of a tree behind it. -/
import Derived.Test.YtamkfadammlhbaaGreatDoorTree30
namespace Go.Proofs.YtamkfadammlhbaaGreatDoor
open Go.RowKit
open Go.ChangeMaps (setBlock)
set_option linter.unusedVariables false
set_option linter.unusedSimpArgs false
set_option maxRecDepth 100000

theorem flat4 (ls : List (List Value)) (h : ∀ l ∈ ls, l.length = 4) (i : Nat) (hi : i < ls.length) (j : Nat) (hj : j < 4) : ls.flatten[i * 4 + j]? = ls[i][j]? := by
  induction ls generalizing i with
  | nil => simp at hi
  | cons l r ih =>
    have hl := h l (List.mem_cons_self ..)
    rw [List.flatten_cons]
    cases i with
    | zero =>
      rw [Nat.zero_mul, Nat.zero_add, List.getElem?_append_left (by omega)]; rfl
    | succ i =>
      rw [List.getElem?_append_right (by omega), show (i + 1) * 4 + j - l.length = i * 4 + j by omega]
      exact ih (fun x hx => h x (List.mem_cons_of_mem _ hx)) i (by simpa using hi)
theorem OpIn.mono {w0 : World} {S S' : Blocks} {L : List Rw} {o : OpD} {x : OpE} (h : OpIn w0 S L o x) (hs : ∀ b x, (b, x) ∈ S → (b, x) ∈ S') : OpIn w0 S' L o x :=
  ⟨h.kind, h.l, h.l2, h.p, h.q, h.n, h.data.mono hs (fun _ _ _ h => h) (fun _ h => h)⟩
/-- A tree of the law's, as plain data. -/
def Live (w0 : World) (L : List Rw) (t : Nat) (E : Et) (w : World) : Prop := ∃ S L' T, Own ⟨w0, S⟩ w L' ∧ (∀ x ∈ L, x ∈ L') ∧ Tree S (Pc L') t T ∧ Rep T E
theorem do_lit {w0 w : World} {S : Blocks} {L : List Rw} {t : Nat} {T : Tr} {E E' : Et} (hO : Own ⟨w0, S⟩ w L) (H : Tree S (Pc L) t T) (hR : Rep T E) (hmx : Mx w0) (ops : List OpD) (xs : List OpE) (C : Array Value) (hC : C.toList = (ops.map OpD.cells).flatten) (cap : Nat) (hlen : xs.length = ops.length) (hn : ops.length ≤ 1000000)
    (hin : ∀ i (h : i < ops.length), OpIn w0 S L ops[i] (xs[i]'(by omega)))
    (hE : doAllE E xs = some E') (h1 : 1 ≤ E.next) (h2 : E.next ≤ 900000000) (h3 : E'.nodes.length ≤ 128) (h4 : (sumE E'.nodes : Int) ≤ E'.quota) (h5 : sumE E'.nodes ≤ 1000000000) :
    Calls Tryz.prog 14 #[.pointer (some ⟨t, 0, none⟩), .slice (some ⟨w.heap.size, 0, none⟩) ops.length cap] (w.alloc (.cells C 38)) fun e w' => e = .returned (.int .i64 0) ∧ Live w0 L t E' w' := by
  have hO1 := hO.newB (.cells C 38)
  have H1 := H.mono (D2 := Pc L) (S2 := (w.heap.size, .cells C 38) :: S) (fun b x _ hx => List.mem_cons_of_mem _ hx) (fun _ _ h => h)
  refine (Do_ok hO1 H1 hR hmx w.heap.size 0 ops xs cap hlen hn (fun w' S' L' k1 k2 i hi => ?_) (fun i hi => (hin i hi).mono fun b x hb => List.mem_cons_of_mem _ hb) hE h1 h2 h3 h4 h5).mono fun e w' hd => ?_
  · intro j v hv
    have hc := k1.cellB (k2 _ _ (List.mem_cons_self ..)) (0 + i * 4 + j)
    rw [hc]
    have hj : j < 4 := by
      have := (List.getElem?_eq_some_iff.1 hv).1
      simpa [OpD.cells, opL] using this
    rw [← Array.getElem?_toList, hC, Nat.zero_add, flat4 _ (fun l hl => by
      obtain ⟨o, _, rfl⟩ := List.mem_map.1 hl
      rfl) i (by simpa using hi) j hj, List.getElem_map]
    exact hv
  · obtain ⟨S', L', T', e1, e2, e3, e4, e5, e6⟩ := hd
    exact ⟨e1, S', L', T', e2, e3, e4, e6⟩
end Go.Proofs.YtamkfadammlhbaaGreatDoor
