/- A text's unit: what holds between two lines. -/
import Derived.Test.YtmnohaefklglfaaDoorUn8
namespace Go.Proofs.YtmnohaefklglfaaDoor
open Go.RowKit
open Go.ChangeMaps (setBlock)
set_option linter.unusedVariables false
set_option linter.unusedSimpArgs false
set_option maxRecDepth 100000

section
variable {w0 w w' : World} {K K' : Blocks} {ub mb pb b : Nat} {u : UD}
/-- A turn of a block that is none of these, and no cells. -/
theorem PU.grow {row : Option Nat} (h : PU w0 K ub mb pb u w) (hg : w.grownBy w' row) (hr : ∀ r, row = some r → w0.heap.size ≤ r ∧ r ∉ ub :: mb :: pb :: K.map (·.1) ∧ ∃ o : Obj, w.heap[r]? = some o ∧ o.isCells = false) : PU w0 K ub mb pb u w' := by
  obtain ⟨S, vs, o, hO, h1, h2, h3, h4, h5, h6, h7, h8⟩ := h
  have hO2 := hO.forget (S' := (ub, unitO u.name vs (retU u)) :: (mb, o) :: (pb, .cells #[.pointer (some ⟨ub, 0, none⟩), .map (some mb), .bool u.retry.isSome] 48) :: K) (fun m hm => by
    rcases List.mem_cons.1 hm with rfl | hm
    · exact h1
    · rcases List.mem_cons.1 hm with rfl | hm
      · exact h2
      · rcases List.mem_cons.1 hm with rfl | hm
        · exact h4
        · exact h7 m hm)
  refine ⟨_, vs, o, ⟨hO2.below.grown hg hO2.size fun k hk => (hr k hk).1, fun p hp => ?_, hO2.apart, fun m hm => ?_, hO2.offmaps⟩, List.mem_cons_self .., List.mem_cons_of_mem _ (List.mem_cons_self ..), h3, List.mem_cons_of_mem _ (List.mem_cons_of_mem _ (List.mem_cons_self ..)), h5, h6, fun x hx => List.mem_cons_of_mem _ (List.mem_cons_of_mem _ (List.mem_cons_of_mem _ hx)), h8⟩
  · have hp0 := hO2.rows p hp
    refine hp0.kept hg ?_
    rcases hp0.2 with ⟨e, _⟩ | ⟨g, cap, cur, e, _, hgb, _⟩
    · rw [e]; exact .inl rfl
    · rw [e]
      refine .inr fun e' => ?_
      obtain ⟨_, _, o', ho', hc'⟩ := hr g (by simpa [Value.ownBlock] using e'.symm)
      rw [hgb] at ho'; cases ho'; cases hc'
  · refine ⟨(hO2.maps m hm).1, (hg.block m.1 (lt_of_heap (hO2.maps m hm).2) fun e => ?_).trans (hO2.maps m hm).2⟩
    refine (hr m.1 e.symm).2.1 ?_
    rcases List.mem_cons.1 hm with rfl | hm
    · exact List.mem_cons_self ..
    · rcases List.mem_cons.1 hm with rfl | hm
      · exact List.mem_cons_of_mem _ (List.mem_cons_self ..)
      · rcases List.mem_cons.1 hm with rfl | hm
        · exact List.mem_cons_of_mem _ (List.mem_cons_of_mem _ (List.mem_cons_self ..))
        · exact List.mem_cons_of_mem _ (List.mem_cons_of_mem _ (List.mem_cons_of_mem _ (List.mem_map.2 ⟨m, hm, rfl⟩)))
end
section
variable {w0 w : World} {K : Blocks} {ub mb pb b : Nat} {u : UD} {S : Blocks} {L : List Rw} {o : Obj}
theorem Own.addB (h : Own ⟨w0, S⟩ w L) (hlo : w0.heap.size ≤ b) (ho : w.heap[b]? = some o) (hrow : ∀ p ∈ L, p.v.ownBlock ≠ some b) : Own ⟨w0, (b, o) :: S⟩ w L :=
  ⟨h.below, h.rows, h.apart, fun m hm => by
    rcases List.mem_cons.1 hm with rfl | hm
    · exact ⟨hlo, ho⟩
    · exact h.maps m hm, fun m hm p hp => by
    rcases List.mem_cons.1 hm with rfl | hm
    · exact hrow p hp
    · exact h.offmaps m hm p hp⟩
/-- A block that is no cells, and none of these, is known, too. -/
theorem PU.add (h : PU w0 K ub mb pb u w) (hlo : w0.heap.size ≤ b) (ho : w.heap[b]? = some o) (hc : o.isCells = false) (hn : b ∉ ub :: mb :: pb :: K.map (·.1)) : PU w0 ((b, o) :: K) ub mb pb u w := by
  obtain ⟨S, vs, o', hO, h1, h2, h3, h4, h5, h6, h7, h8⟩ := h
  refine ⟨(b, o) :: S, vs, o', hO.addB hlo ho (fun p hp e => ?_), List.mem_cons_of_mem _ h1, List.mem_cons_of_mem _ h2, h3, List.mem_cons_of_mem _ h4, h5, h6, fun x hx => ?_, ?_⟩
  · rcases (hO.rows p hp).2 with ⟨e', _⟩ | ⟨g, cap, cur, e', _, hgb, _⟩
    · rw [e'] at e; cases e
    · rw [e'] at e
      obtain rfl : g = b := by simpa [Value.ownBlock] using e
      rw [hgb] at ho; cases ho; cases hc
  · rcases List.mem_cons.1 hx with rfl | hx
    · exact List.mem_cons_self ..
    · exact List.mem_cons_of_mem _ (h7 x hx)
  · simp only [List.map_cons, List.nodup_cons, List.mem_cons, not_or] at h8 hn ⊢
    exact ⟨⟨h8.1.1, h8.1.2.1, fun e => hn.1 e.symm, h8.1.2.2⟩, ⟨h8.2.1.1, fun e => hn.2.1 e.symm, h8.2.1.2⟩, ⟨fun e => hn.2.2.1 e.symm, h8.2.2.1⟩, hn.2.2.2, h8.2.2.2⟩
theorem PU.sub {K' : Blocks} (h : PU w0 K ub mb pb u w) (hs : ∀ x ∈ K', x ∈ K) (hn : (ub :: mb :: pb :: K'.map (·.1)).Nodup) : PU w0 K' ub mb pb u w := by
  obtain ⟨S, vs, o', hO, h1, h2, h3, h4, h5, h6, h7, h8⟩ := h
  exact ⟨S, vs, o', hO, h1, h2, h3, h4, h5, h6, fun y hy => h7 y (hs y hy), hn⟩
theorem PU.drop {x : Nat × Obj} (h : PU w0 (x :: K) ub mb pb u w) : PU w0 K ub mb pb u w := by
  obtain ⟨S, vs, o', hO, h1, h2, h3, h4, h5, h6, h7, h8⟩ := h
  refine ⟨S, vs, o', hO, h1, h2, h3, h4, h5, h6, fun y hy => h7 y (List.mem_cons_of_mem _ hy), h8.sublist ?_⟩
  exact (((List.sublist_cons_self ..).cons_cons _).cons_cons _).cons_cons _
end
theorem run_snoc {u u' : UD} {n m : Nat} {pre : List (List UInt8)} (h : runU u n pre = (0, m, u')) (x : List UInt8) : runU u n (pre ++ [x]) = if (stepU u' x).2 = 0 then (0, m + 1, (stepU u' x).1) else ((stepU u' x).2, m + 1, u') := by
  induction pre generalizing u n with
  | nil =>
    obtain ⟨h1, h2⟩ := Prod.mk.inj (Prod.mk.inj h).2
    subst h1 h2
    show (if (stepU u x).2 = 0 then runU (stepU u x).1 (n + 1) [] else ((stepU u x).2, n + 1, u)) = _
    rfl
  | cons l r ih =>
    rw [List.cons_append]
    unfold runU at h ⊢
    split at h
    · rename_i h1
      rw [if_pos h1]
      exact ih h
    · rename_i h1
      exact absurd (Prod.mk.inj h).1 h1
theorem run_count {u u' : UD} {n m : Nat} {pre : List (List UInt8)} (h : runU u n pre = (0, m, u')) : m = n + pre.length := by
  induction pre generalizing u n with
  | nil => exact (Prod.mk.inj (Prod.mk.inj h).2).1.symm
  | cons l r ih =>
    unfold runU at h
    split at h
    · have := ih h
      simp; omega
    · rename_i h1
      exact absurd (Prod.mk.inj h).1 h1
theorem run_stop {u u' : UD} {n m : Nat} {e : Int} {pre : List (List UInt8)} (h : runU u n pre = (e, m, u')) (he : e ≠ 0) (rest : List (List UInt8)) : runU u n (pre ++ rest) = (e, m, u') := by
  induction pre generalizing u n with
  | nil => exact absurd (Prod.mk.inj h).1.symm he
  | cons l r ih =>
    rw [List.cons_append]
    unfold runU at h ⊢
    split at h
    · rename_i h1
      rw [if_pos h1]
      exact ih h
    · rename_i h1
      rw [if_neg h1]
      exact h
def zeroU : Array Value := #[.string ⟨#[]⟩, .slice none 0 0, .slice none 0 0, .slice none 0 0, .slice none 0 0, .slice none 0 0, .slice none 0 0, .int .i64 0]
/-- Blocks beside a unit that is being read: where the answer goes, the line's number, the iterator's. -/
structure PB where
  ub : Nat
  mb : Nat
  pb : Nat
  r1 : Nat
  r2 : Nat
  r3 : Nat
  nb : Nat
  bs : Nat
  be : Nat
  bv : Nat
def PB.K (B : PB) (e n line : Int) : Blocks := [(B.nb, .cells #[.int .i64 n] 3), (B.r1, .cells zeroU 25), (B.r2, .cells #[.int .i64 e] 26), (B.r3, .cells #[.int .i64 line] 3), (B.be, .cells #[.string ⟨#[10]⟩] 9), (B.bv, .cells #[.int .i64 0] 3)]
/-- Between two lines. -/
def StP (w0 : World) (B : PB) (e n line : Int) (u : UD) (w : World) : Prop := ∃ x : Value, PU w0 ((B.bs, .cells #[x] 9) :: B.K e n line) B.ub B.mb B.pb u w
def PB.low (B : PB) (h : Nat) : Prop := ∀ b ∈ [B.ub, B.mb, B.pb, B.r1, B.r2, B.r3, B.nb, B.bs, B.be, B.bv], b < h
section
variable {w0 w w' : World} {B : PB} {e n line : Int} {u : UD}
theorem StP.grow {row : Option Nat} (h : StP w0 B e n line u w) (hg : w.grownBy w' row) (H : Nat) (h0 : w0.heap.size ≤ H) (hB : B.low H) (hr : ∀ r, row = some r → H ≤ r ∧ ∃ o : Obj, w.heap[r]? = some o ∧ o.isCells = false) : StP w0 B e n line u w' := by
  obtain ⟨x, hx⟩ := h
  refine ⟨x, hx.grow hg fun r e' => ?_⟩
  obtain ⟨h1, h2⟩ := hr r e'
  refine ⟨by omega, fun hm => ?_, h2⟩
  have : r ∈ [B.ub, B.mb, B.pb, B.r1, B.r2, B.r3, B.nb, B.bs, B.be, B.bv] := by
    simp only [PB.K, List.map_cons, List.map_nil, List.mem_cons, List.not_mem_nil, or_false] at hm ⊢
    rcases hm with h | h | h | h | h | h | h | h | h | h <;> simp [h]
  have := hB r this
  omega
theorem StP.turns (h : StP w0 B e n line u w) (v : Value) : StP w0 B e n line u (w.setCell ⟨B.bs, 0, none⟩ v) := by
  obtain ⟨x, hx⟩ := h
  exact ⟨v, hx.store 0 v⟩
end
/-- What a text's unit is told as. -/
def ParsePost (w : World) (s : List UInt8) (e : Ending) (w' : World) : Prop :=
  ∃ vs : List Value, vs.length = 6 ∧ e = .returned (.tuple #[.agg (unitL (parseU s).2.2.name vs (retU (parseU s).2.2)).toArray, .int .i64 (parseU s).1, .int .i64 ((parseU s).2.1 : Nat)]) ∧ Own w w' (rowsU vs (parseU s).2.2.ls)
theorem PU.fin {w0 w : World} {K : Blocks} {ub mb pb : Nat} {u : UD} (h : PU w0 K ub mb pb u w) : ∃ vs : List Value, vs.length = 6 ∧ w.heap[ub]? = some (unitO u.name vs (retU u)) ∧
    ∀ {w' : World} {K' : Blocks}, PU w0 K' ub mb pb u w' → w'.heap[ub]? = w.heap[ub]? → Own ⟨w0, []⟩ w' (rowsU vs u.ls) := by
  obtain ⟨S, vs, o, hO, h1, h2, h3, h4, h5, h6, h7, h8⟩ := h
  refine ⟨vs, h5, hO.at h1, fun {w' K'} h' he => ?_⟩
  obtain ⟨S', vs', o', hO', h1', _, _, _, h5', _⟩ := h'
  have e := hO'.at h1'
  rw [he, hO.at h1] at e
  have e2 : (unitL u.name vs (retU u)).toArray = (unitL u.name vs' (retU u)).toArray := by
    injection e with e
    injection e
  have e3 := congrArg Array.toList e2
  unfold unitL at e3
  have e4 : vs ++ [Value.int .i64 (retU u)] = vs' ++ [Value.int .i64 (retU u)] := (List.cons.inj e3).2
  have e5 := (List.append_inj e4 (by rw [h5, h5'])).1
  subst e5
  exact hO'.forget fun m hm => nomatch hm
theorem result_keep (V : World) (H k : Nat) (h1 : k ≠ H) (h2 : k ≠ H + 1) (h3 : k ≠ H + 1 + 1) (v0 v1 v2 v3 v4 v5 v6 v7 e n : Value) :
    ((((((((((V.setCell ⟨H, 0, none⟩ v0).setCell ⟨H, 1, none⟩ v1).setCell ⟨H, 2, none⟩ v2).setCell ⟨H, 3, none⟩ v3).setCell ⟨H, 4, none⟩ v4).setCell ⟨H, 5, none⟩ v5).setCell ⟨H, 6, none⟩ v6).setCell ⟨H, 7, none⟩ v7).setCell ⟨H + 1, 0, none⟩ e).setCell ⟨H + 1 + 1, 0, none⟩ n).heap[k]? = V.heap[k]? := by
  rw [Below.heap_setCell _ _ _ k h3, Below.heap_setCell _ _ _ k h2, Below.heap_setCell _ _ _ k h1, Below.heap_setCell _ _ _ k h1, Below.heap_setCell _ _ _ k h1, Below.heap_setCell _ _ _ k h1, Below.heap_setCell _ _ _ k h1, Below.heap_setCell _ _ _ k h1, Below.heap_setCell _ _ _ k h1, Below.heap_setCell _ _ _ k h1]
theorem post_no {w w' : World} {s : List UInt8} {e : Int} {n : Nat} (h : parseU s = (e, n, UD0)) (hb : Below w.heap.size w w') : ParsePost w s (.returned (.tuple #[.agg zeroU, .int .i64 e, .int .i64 (n : Nat)])) w' := by
  refine ⟨[.slice none 0 0, .slice none 0 0, .slice none 0 0, .slice none 0 0, .slice none 0 0, .slice none 0 0], rfl, by rw [h]; rfl, ?_⟩
  rw [h]
  exact ((((((Own.of_below hb).nil 9 1).nil 9 1).nil 9 1).nil 9 1).nil 9 1).nil 9 1
/-- Where the answer goes, ahead of its being stored. -/
theorem PU.zeros {w V : World} {H ub mb pb : Nat} {u : UD} {K : Blocks} (h : PU w K ub mb pb u V) (k1 : (H, .cells zeroU 25) ∈ K) (k2 : (H + 1, .cells #[.int .i64 0] 26) ∈ K) (k3 : (H + 1 + 1, .cells #[.int .i64 0] 3) ∈ K) :
    (V.cell? ⟨H, 0, none⟩ = some (.string ⟨#[]⟩) ∧ V.cell? ⟨H, 1, none⟩ = some (.slice none 0 0) ∧ V.cell? ⟨H, 2, none⟩ = some (.slice none 0 0) ∧ V.cell? ⟨H, 3, none⟩ = some (.slice none 0 0) ∧ V.cell? ⟨H, 4, none⟩ = some (.slice none 0 0) ∧ V.cell? ⟨H, 5, none⟩ = some (.slice none 0 0) ∧ V.cell? ⟨H, 6, none⟩ = some (.slice none 0 0) ∧ V.cell? ⟨H, 7, none⟩ = some (.int .i64 0)) ∧
    (∀ j, V.frozen? ⟨H, j, none⟩ = false) ∧ V.cell? ⟨H + 1, 0, none⟩ = some (.int .i64 0) ∧ V.cell? ⟨H + 1 + 1, 0, none⟩ = some (.int .i64 0) ∧ V.frozen? ⟨H + 1, 0, none⟩ = false ∧ V.frozen? ⟨H + 1 + 1, 0, none⟩ = false := by
  have g1 := h.at k1
  have g2 := h.at k2
  have g3 := h.at k3
  exact ⟨⟨cell_at g1 0, cell_at g1 1, cell_at g1 2, cell_at g1 3, cell_at g1 4, cell_at g1 5, cell_at g1 6, cell_at g1 7⟩, fun j => free_at g1 j, cell_at g2 0, cell_at g3 0, free_at g2 0, free_at g3 0⟩
/-- The answer is stored. -/
theorem PU.result {w V : World} {H D ub mb pb : Nat} {oD : Obj} {u : UD} {K : Blocks} (h : PU w K ub mb pb u V) (k1 : (H, .cells zeroU 25) ∈ K) (k2 : (H + 1, .cells #[.int .i64 0] 26) ∈ K) (k3 : (H + 1 + 1, .cells #[.int .i64 0] 3) ∈ K) (k4 : (D, oD) ∈ K)
    (hn : (ub :: mb :: pb :: [H, H + 1, H + 1 + 1, D]).Nodup) (v0 v1 v2 v3 v4 v5 v6 v7 e n : Value) :
    PU w [(H, .cells #[v0, v1, v2, v3, v4, v5, v6, v7] 25), (H + 1, .cells #[e] 26), (H + 1 + 1, .cells #[n] 3), (D, oD)] ub mb pb u
      ((((((((((V.setCell ⟨H, 0, none⟩ v0).setCell ⟨H, 1, none⟩ v1).setCell ⟨H, 2, none⟩ v2).setCell ⟨H, 3, none⟩ v3).setCell ⟨H, 4, none⟩ v4).setCell ⟨H, 5, none⟩ v5).setCell ⟨H, 6, none⟩ v6).setCell ⟨H, 7, none⟩ v7).setCell ⟨H + 1, 0, none⟩ e).setCell ⟨H + 1 + 1, 0, none⟩ n) := by
  have hn2 := hn
  simp at hn2
  have rest4 : ∀ {y : Nat × Obj} {a b c d : Nat × Obj}, y ∈ [a, b, c, d] ↔ y = a ∨ y = b ∨ y = c ∨ y = d := by intros; simp
  have p1 := h.sub (K' := [(H, .cells zeroU 25), (H + 1, .cells #[.int .i64 0] 26), (H + 1 + 1, .cells #[.int .i64 0] 3), (D, oD)]) (fun y hy => by
    rw [rest4] at hy
    rcases hy with rfl | rfl | rfl | rfl <;> assumption) hn
  have p2 := (((((((p1.store 0 v0).store 1 v1).store 2 v2).store 3 v3).store 4 v4).store 5 v5).store 6 v6).store 7 v7
  have p3 := p2.sub (K' := [(H + 1, .cells #[.int .i64 0] 26), (H, .cells #[v0, v1, v2, v3, v4, v5, v6, v7] 25), (H + 1 + 1, .cells #[.int .i64 0] 3), (D, oD)]) (fun y hy => by
    rw [rest4] at hy
    rcases hy with rfl | rfl | rfl | rfl <;> simp [zeroU]) (by simp; omega)
  have p4 := (p3.store 0 e).sub (K' := [(H + 1 + 1, .cells #[.int .i64 0] 3), (H, .cells #[v0, v1, v2, v3, v4, v5, v6, v7] 25), (H + 1, .cells #[e] 26), (D, oD)]) (fun y hy => by
    rw [rest4] at hy
    rcases hy with rfl | rfl | rfl | rfl <;> simp) (by simp; omega)
  exact (p4.store 0 n).sub (fun y hy => by
    rw [rest4] at hy
    rcases hy with rfl | rfl | rfl | rfl <;> simp) hn
theorem results_cell3 {fn : Func} {p q r : Tmp} {ty tz tu : TypeId} (h : fn.results = #[.cell p ty, .cell q tz, .cell r tu]) (tmps : Array Value) (P : Program) (w : World) :
    (results fn tmps).run P w = ((asAddr (tmps.getD p undef)).run P w).andThen fun a w1 => ((loadVar ty a).run P w1).andThen fun v w2 => ((asAddr (tmps.getD q undef)).run P w2).andThen fun a w3 => ((loadVar tz a).run P w3).andThen fun v' w4 =>
      ((asAddr (tmps.getD r undef)).run P w4).andThen fun a w5 => ((loadVar tu a).run P w5).andThen fun v'' w6 => .ok (.tuple #[v, v', v'']) w6 := by
  simp only [results, h]
  simp [Sem.run_bind, Result.andThen]
theorem ret_unit {tmps : Array Value} {w : World} {a b c : Nat} {v0 v1 v2 v3 v4 v5 v6 v7 e n : Value} (hp : tmps.getD 2 undef = .pointer (some ⟨a, 0, none⟩)) (hq : tmps.getD 3 undef = .pointer (some ⟨b, 0, none⟩)) (hr : tmps.getD 4 undef = .pointer (some ⟨c, 0, none⟩))
    (h1 : w.heap[a]? = some (.cells #[v0, v1, v2, v3, v4, v5, v6, v7] 25)) (h2 : w.heap[b]? = some (.cells #[e] 26)) (h3 : w.heap[c]? = some (.cells #[n] 3)) :
    (results Tryd.f7 tmps).run Tryd.prog w = .ok (.tuple #[.agg #[v0, v1, v2, v3, v4, v5, v6, v7], e, n]) w := by
  rw [results_cell3 Tryd.results7, hp, hq, hr]
  have ea : ∀ (x : Nat) (w : World), (asAddr (.pointer (some ⟨x, 0, none⟩))).run Tryd.prog w = .ok ⟨x, 0, none⟩ w := fun _ _ => rfl
  have hi : (Tryd.prog.info? 25).map (·.size) = some 8 := by kernel_rfl
  have r1 : w.rangeAt a 0 [v0, v1, v2, v3, v4, v5, v6, v7] := fun j v hj => by
    rw [Nat.zero_add, cell_at h1 j]; simpa using hj
  rw [ea]
  simp only [Result.andThen_ok, run_loadVar_mid w a 0 25 _ _ r1 Tryd.underlying25 rfl hi, ea]
  have c2 : w.cell? ⟨b, 0, none⟩ = some e := cell_at h2 0
  have c3 : w.cell? ⟨c, 0, none⟩ = some n := cell_at h3 0
  have l2 : (loadVar 26 ⟨b, 0, none⟩).run Tryd.prog w = .ok e w := by
    go_simp
  have l3 : (loadVar 3 ⟨c, 0, none⟩).run Tryd.prog w = .ok n w := by
    go_simp
  rw [l2]
  simp only [Result.andThen_ok, ea]
  rw [l3]
  simp only [Result.andThen_ok]
theorem PU.leave {w V : World} {H D ub mb pb : Nat} {u : UD} {c1 c2 c3 : Obj} (h : PU w [(H, c1), (H + 1, c2), (H + 1 + 1, c3), (D, .deferred (some []))] ub mb pb u V) (hlo : w.heap.size ≤ D) :
    V.heap[D]? = some (.deferred (some [])) ∧ PU w [(H, c1), (H + 1, c2), (H + 1 + 1, c3)] ub mb pb u (V.putObj D (.deferred none)) := by
  have hD := h.at (b := D) (x := .deferred (some [])) (by simp)
  have hnd : D ∉ ub :: mb :: pb :: [H, H + 1, H + 1 + 1] := by
    obtain ⟨_, _, _, _, _, _, _, _, _, _, _, h8⟩ := h
    simp at h8
    simp
    omega
  have h2 : PU w [(H, c1), (H + 1, c2), (H + 1 + 1, c3)] ub mb pb u V := by
    obtain ⟨S, vs, o', hO, h1, h2, h3, h4, h5, h6, h7, h8⟩ := h
    refine ⟨S, vs, o', hO, h1, h2, h3, h4, h5, h6, fun y hy => h7 y ?_, h8.sublist ?_⟩
    · simp only [List.mem_cons, List.not_mem_nil, or_false] at hy ⊢
      rcases hy with rfl | rfl | rfl <;> simp
    · exact (((((((List.nil_sublist _).cons_cons _).cons_cons _).cons_cons _).cons_cons _).cons_cons _).cons_cons _)
  exact ⟨hD, h2.grow (grownBy_putObj' V D (.deferred none)) fun r e => by cases e; exact ⟨hlo, hnd, _, hD, rfl⟩⟩
end Go.Proofs.YtmnohaefklglfaaDoor
