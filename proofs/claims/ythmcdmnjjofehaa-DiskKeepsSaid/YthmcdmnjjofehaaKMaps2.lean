/- What the law does with its maps. -/
import Derived.Test.YthmcdmnjjofehaaKMaps
namespace Go.Proofs.Ythmcdmnjjofehaa
open Go.RowKit
open Go.Maps (Keyed IsMap int_keyed keyOf_int_mk atKey_put_same atKey_put_other)
set_option linter.unusedVariables false
set_option linter.unusedSimpArgs false

theorem zeroInner (w : World) : (zeroValue 52).run Try.prog w = .ok (.map none) w := by kernel_rfl
theorem zeroI (w : World) : (zeroValue 3).run Try.prog w = .ok (.int .i64 0) w := by kernel_rfl
theorem keyI (x : Nat) (hx : x < 9223372036854775808) : keyOf Try.prog 3 (.int .i64 (x : Int)) = some (.int .i64 (x : Int)) := by
  refine keyOf_int_mk Try.underlying3 ?_
  have m1 : IntKind.i64.min = -9223372036854775808 := by decide
  have m2 : IntKind.i64.max = 9223372036854775807 := by decide
  simp only [Lit.wf, Bool.and_eq_true, decide_eq_true_eq, m1, m2]
  omega
/-- The outer map holds the inner one. -/
theorem May.look {w : World} {b0 n0 c : Nat} {bs : List Nat} {DS : List (DataW Unit)} (h : May w b0 bs DS n0 c) (x : Nat) (hx : x < bs.length) (hx63 : x < 9223372036854775808) :
    (Instr.lookup 51 (.map (some b0)) (.int .i64 (x : Int)) false).run Try.prog w = .ok (.map (some bs[x])) w := by
  obtain ⟨⟨D, h1, h2⟩, _⟩ := h
  obtain ⟨v, ps, hr, hv⟩ := h1.lookup lawI Try.underlying51 (zeroInner w) (show rdMap (.map none) = some (.nil, []) from rfl) (keyI x hx63)
  rw [h2 x hx] at hv
  rw [hr, rdMap_inv hv]
/-- A sector that may be is found. -/
theorem May.found {w : World} {b0 n0 c : Nat} {bs : List Nat} {DS : List (DataW Unit)} (h : May w b0 bs DS n0 c) (x : Nat) (hx : x < bs.length) (s : List Value) (hs : mayBe DS x s) :
    (Instr.lookup 52 (.map (some bs[x])) (.agg s.toArray) false).run Try.prog w = .ok (.int .i64 1) w := by
  obtain ⟨hb, h64, D, hD, hat⟩ := hs
  have hy : x < DS.length := by rw [h.len]; exact hx
  rw [List.getElem?_eq_getElem hy] at hD
  have hi := h.inner x hx hy
  rw [Option.some.inj hD] at hi
  obtain ⟨q, hr, hq, _⟩ := hi.lookup_int lawS Try.underlying52 Try.underlying3 (zeroI w) (keyOf_sec s hb h64)
  rw [hat] at hq
  have hq1 : q = 1 := by simpa using hq.symm
  rw [hr, hq1]

section
variable {P : Program}
/-- An entry of a map's literal, at the operation. -/
theorem wpList_insert_own {H : Type} (w : World) {ops : Array Oper} {rest : List Oper} {o : Oper} {a : Act} {Q : Exit → Act → World → Prop}
    (hg : o.guard = none) (m x v : Operand) (t : TypeId) (hop : o.op = Op.insert t m x v)
    (k e : TypeId) (K : Keyed P k) (ht : P.underlying t = some (.map k e)) (R : Value → Option (DataW H × List MemPlace)) (b n : Nat) (D : DataW H)
    (hm : a.eval m = .map (some b)) (hown : w.ownsMap P k R b n D) (hn : n < maxLen) (key val : Value) (kl : Lit) (hx : a.eval x = key) (hv : a.eval v = val) (hkey : keyOf P k key = some kl)
    (d : DataW H) (ps : List MemPlace) (hval : R val = some (d, ps))
    (hK : ∀ w', w'.ownsMap P k R b (n + 1) (D.put kl d) → w.grownBy w' (some b) → wpList P ops Q rest (a.put o.dst undef) w') :
    wpList P ops Q (o :: rest) a w := by
  refine wpList_plain hg fun K' hK' => ?_
  obtain ⟨w', hrun, r1, r2⟩ := hown.update K ht hn hkey hval
  unfold Oper.wp
  simp [execOp, hop, hm, hx, hv, hrun, Result.andThen]
  exact hK' _ _ (hK w' r1 r2)
end

/-- Behind a write into the inner map of sector x. -/
theorem May.put {w w' : World} {b0 n0 c : Nat} {bs : List Nat} {DS : List (DataW Unit)} (h : May w b0 bs DS n0 c) (x : Nat) (hx : x < bs.length) (hy : x < DS.length) (s : List Value)
    (ho : w'.ownsMap (H := Unit) Try.prog 39 (plainElem Try.prog 3) bs[x] (c + 1) (DS[x].put (secKey s) (.lit (.int .i64 1)))) (hg : w.grownBy w' (some bs[x])) :
    May w' b0 bs (DS.set x (DS[x].put (secKey s) (.lit (.int .i64 1)))) n0 (c + 1) := by
  obtain ⟨⟨D, h1, h2⟩, h3, h4, h5⟩ := h
  have hnd := List.nodup_cons.1 h5
  have hne0 : some b0 ≠ some bs[x] := fun e => hnd.1 (by rw [Option.some.inj e]; exact List.getElem_mem hx)
  refine ⟨⟨D, h1.kept hg hne0, h2⟩, by rw [List.length_set]; exact h3, fun y hy1 hy2 => ?_, h5⟩
  by_cases hxy : x = y
  · subst hxy
    rw [List.getElem_set_self]
    exact ho
  · rw [List.getElem_set_ne hxy]
    rw [List.length_set] at hy2
    refine ((h4 y hy1 hy2).kept hg fun e => hxy ?_).mono (Nat.le_succ c)
    have e' := Option.some.inj e
    rcases Nat.lt_or_ge x y with h6 | h6
    · exact absurd e'.symm (List.pairwise_iff_getElem.1 hnd.2 x y hx hy1 h6)
    · rcases Nat.lt_or_ge y x with h7 | h7
      · exact absurd e' (List.pairwise_iff_getElem.1 hnd.2 y x hy1 hx h7)
      · omega
theorem mayBe.put {w : World} {b0 n0 c : Nat} {bs : List Nat} {DS : List (DataW Unit)} (h : May w b0 bs DS n0 c) (x : Nat) (hx : x < bs.length) (hy : x < DS.length) (s : List Value) (hs : byteSec s) (h64 : s.length = 64) :
    mayBe (DS.set x (DS[x].put (secKey s) (.lit (.int .i64 1)))) x s ∧ ∀ k t, mayBe DS k t → mayBe (DS.set x (DS[x].put (secKey s) (.lit (.int .i64 1)))) k t := by
  have hkey : Go.WideAt.IsKeyLit (secKey s) := trivial
  have hm := ownsMap_isMap (h.inner x hx hy)
  refine ⟨⟨hs, h64, _, List.getElem?_set_self hy, atKey_put_same hm hkey _ _⟩, fun k t ht => ?_⟩
  obtain ⟨t1, t2, D, hD, hat⟩ := ht
  by_cases hxk : x = k
  · subst hxk
    rw [List.getElem?_eq_getElem hy] at hD
    have hD' := Option.some.inj hD
    refine ⟨t1, t2, _, List.getElem?_set_self hy, ?_⟩
    by_cases hst : secKey t = secKey s
    · rw [hst]; exact atKey_put_same hm hkey _ _
    · rw [atKey_put_other hst, hD']; exact hat
  · exact ⟨t1, t2, D, by rw [List.getElem?_set_ne hxk]; exact hD, hat⟩
/-- No map yet. -/
theorem May.start (w : World) : May (w.alloc (.map #[] 0)) w.heap.size [] [] 0 1 :=
  ⟨⟨.map [], World.ownsMap_made w _ _ _, fun x hx => absurd hx (Nat.not_lt_zero _)⟩, rfl, fun x hx => absurd hx (Nat.not_lt_zero _), by simp⟩
/-- One more inner map. -/
theorem May.add {w w' : World} {b0 n0 bn : Nat} {bs : List Nat} {DS : List (DataW Unit)} {Dn : DataW Unit} (h : May w b0 bs DS n0 1) (hbn : bn ∉ b0 :: bs)
    (hin : w'.ownsMap (H := Unit) Try.prog 39 (plainElem Try.prog 3) bn 1 Dn) (hsame : ∀ b ∈ bs, w'.heap[b]? = w.heap[b]?)
    (hout : ∀ D : DataW Unit, w.ownsMap Try.prog 3 rdMap b0 n0 D → w'.ownsMap Try.prog 3 rdMap b0 (n0 + 1) (D.put (.int .i64 (bs.length : Int)) (.lit (.int .i64 (bn : Int))))) :
    May w' b0 (bs ++ [bn]) (DS ++ [Dn]) (n0 + 1) 1 := by
  obtain ⟨⟨D, h1, h2⟩, h3, h4, h5⟩ := h
  have hnd := List.nodup_cons.1 h5
  refine ⟨⟨_, hout D h1, fun x hx => ?_⟩, by simp [h3], fun x hx hy => ?_, ?_⟩
  · by_cases hxl : x < bs.length
    · rw [List.getElem_append_left hxl, atKey_put_other (by
        intro e
        have e' : ((x : Nat) : Int) = (bs.length : Int) := by simpa using e
        omega)]
      exact h2 x hxl
    · have : x = bs.length := by simp at hx; omega
      subst this
      rw [atKey_put_same (ownsMap_isMap h1) (show Go.WideAt.IsKeyLit (.int .i64 ((bs.length : Nat) : Int)) from trivial)]
      simp
  · by_cases hxl : x < bs.length
    · have e : (bs ++ [bn])[x] = bs[x] := List.getElem_append_left hxl
      have e2 : (DS ++ [Dn])[x] = DS[x] := List.getElem_append_left (by omega)
      rw [e, e2]
      exact ownsMap_same (h4 x hxl (by omega)) (hsame _ (List.getElem_mem hxl))
    · have hxe : x = bs.length := by simp at hx; omega
      subst hxe
      have e1 : (bs ++ [bn])[bs.length] = bn := by simp
      have e2 : (DS ++ [Dn])[bs.length] = Dn := by rw [List.getElem_append_right (by omega)]; simp [h3]
      rw [e1, e2]; exact hin
  · rw [← List.cons_append]
    refine List.nodup_append.2 ⟨h5, by simp, fun a ha b hb e => ?_⟩
    rw [List.mem_singleton.1 hb] at e
    exact hbn (e ▸ ha)
end Go.Proofs.Ythmcdmnjjofehaa
