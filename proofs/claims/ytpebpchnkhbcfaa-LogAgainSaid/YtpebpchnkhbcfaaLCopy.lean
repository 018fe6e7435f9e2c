/- 'copy' of bytes into a row of the call's own; sectors that are filled in part. -/
import Derived.Test.YtpebpchnkhbcfaaLList
import Derived.Laws.IdiomCopy
namespace Go.Proofs.Ytpebpchnkhbcfaa
open Go.RowKit
set_option linter.unusedVariables false
set_option linter.unusedSimpArgs false

theorem cell_alloc {w : World} {p : Addr} {v : Value} (h : w.cell? p = some v) (o : Obj) : (w.alloc o).cell? p = some v :=
  ((Below.alloc (Below.refl _ w) (Nat.le_refl _) o).cell (World.block_lt_of_cell? w _ h)).trans h
theorem cell_drew {w : World} {p : Addr} {v : Value} (h : w.cell? p = some v) : w.drew.cell? p = some v := h
theorem By.alloc {w : World} {v : Value} {zs : List Int} (h : By w v zs) (o : Obj) : By (w.alloc o) v zs := h.later (Below.alloc (Below.refl _ w) (Nat.le_refl _) o)

section
variable {P : Program}
theorem run_copy_into {W0 : Base} {w : World} {L : List Rw} {e size g n cap : Nat} {xs : List Value} (h : Own W0 w (⟨e, size, .slice (some ⟨g, 0, none⟩) n cap, n, xs⟩ :: L)) (t ty elem : TypeId) (hu : P.underlying t = some (.slice elem)) (hz : (P.info? elem).map (·.size) = some 1)
    (off dLen dCap : Nat) (sv : Value) (zs : List Int) (hs : By w sv zs) (k : Nat) (hk : k = min zs.length dLen) (hfit : off + k ≤ n * size) :
    ∃ w', (Builtin.copy_ #[t, t] ty #[.slice (some ⟨g, off, none⟩) dLen dCap, sv]).run P w = .ok (goInt k) w' ∧ Own W0 w' (⟨e, size, .slice (some ⟨g, 0, none⟩) n cap, n, splice xs off (bs (zs.take k))⟩ :: L) := by
  have hl : (bs (zs.take k)).length = k := by rw [bs_length, List.length_take]; omega
  by_cases h0 : k = 0
  · obtain ⟨a, c, rfl, _, _⟩ := hs.2.2
    refine ⟨w, ?_, ?_⟩
    · rw [h0]
      exact run_copy_none (P := P) w t t ty elem _ _ dLen dCap zs.length c hu hz (by show min _ _ = 0; omega)
    · rw [h0, List.take_zero]; exact h
  · obtain ⟨g2, o, c, rfl, _, _, hc⟩ := hs.cells (by omega)
    have ht := Own.there (h := h) off k hfit
    have hr := run_copy_cells (P := P) w t t ty elem g off dLen dCap ⟨g2, o, none⟩ zs.length c (bs (zs.take k)) hu hz (by rw [hl, hk]) (fun j v hj => by
      have hlt : j < k := by
        rcases Nat.lt_or_ge j k with h1 | h1
        · exact h1
        · rw [List.getElem?_eq_none (by omega)] at hj; cases hj
      rw [Addr.add_mid, hc j (by omega), ← hj]
      simp [bs, List.getElem?_take, hlt, List.getElem?_eq_getElem (show j < zs.length by omega)]) (fun j hj => (ht j (by omega)).1) (fun j hj => (ht j (by omega)).2) (bs_one _)
    rw [hl] at hr
    exact ⟨_, hr, Own.setCells (h := h) _ off⟩
theorem wpList_copy_into {ops : Array Oper} {rest : List Oper} {o : Oper} {a : Act} {w : World} {Q : Exit → Act → World → Prop} (hgd : o.guard = none) (s x : Operand) (t : TypeId)
    (ho : o.op = .call { callee := .builtin .copy, args := #[s, x], argTypes := #[t, t] }) {W0 : Base} {L : List Rw} {e size g n cap : Nat} {xs : List Value} (off dLen dCap : Nat) (sv : Value) (zs : List Int) (hd : a.eval s = .slice (some ⟨g, off, none⟩) dLen dCap) (hx : a.eval x = sv) (h : Own W0 w (⟨e, size, .slice (some ⟨g, 0, none⟩) n cap, n, xs⟩ :: L))
    (elem : TypeId) (hu : P.underlying t = some (.slice elem)) (hz : (P.info? elem).map (·.size) = some 1) (hs : By w sv zs) (k : Nat) (hk : k = min zs.length dLen) (hfit : off + k ≤ n * size)
    (hK : ∀ w', Own W0 w' (⟨e, size, .slice (some ⟨g, 0, none⟩) n cap, n, splice xs off (bs (zs.take k))⟩ :: L) → wpList P ops Q rest (a.put o.dst (goInt k)) w') : wpList P ops Q (o :: rest) a w := by
  refine wpList_plain hgd fun K hKK => ?_
  obtain ⟨w', hr, h2⟩ := run_copy_into (P := P) h t o.type elem hu hz off dLen dCap sv zs hs k hk hfit
  unfold Oper.wp
  simp [execOp, ho, resolve, invoke, builtin, hd, hx, hr, Result.andThen]
  exact hKK _ _ (hK _ h2)
theorem step_copy_into {ops : Array Oper} {o : Oper} {a : Act} {w : World} {K : Act → World → Prop} {Q : Exit → Act → World → Prop} {E : Prop} (hgd : o.guard = none) (s x : Operand) (t : TypeId)
    (ho : o.op = .call { callee := .builtin .copy, args := #[s, x], argTypes := #[t, t] }) {W0 : Base} {L : List Rw} {e size g n cap : Nat} {xs : List Value} (off dLen dCap : Nat) (sv : Value) (zs : List Int) (hd : a.eval s = .slice (some ⟨g, off, none⟩) dLen dCap) (hx : a.eval x = sv) (h : Own W0 w (⟨e, size, .slice (some ⟨g, 0, none⟩) n cap, n, xs⟩ :: L))
    (elem : TypeId) (hu : P.underlying t = some (.slice elem)) (hz : (P.info? elem).map (·.size) = some 1) (hs : By w sv zs) (k : Nat) (hk : k = min zs.length dLen) (hfit : off + k ≤ n * size)
    (hK : ∀ w', Own W0 w' (⟨e, size, .slice (some ⟨g, 0, none⟩) n cap, n, splice xs off (bs (zs.take k))⟩ :: L) → K (a.put o.dst (goInt k)) w') :
    if Region.wanted o (yielded ops a.tmps) = true then Oper.wp P o a w K Q else E := by
  have hw : Region.wanted o (yielded ops a.tmps) = true := by simp [Region.wanted, hgd]
  rw [if_pos hw]
  obtain ⟨w', hr, h2⟩ := run_copy_into (P := P) h t o.type elem hu hz off dLen dCap sv zs hs k hk hfit
  unfold Oper.wp
  simp [execOp, ho, resolve, invoke, builtin, hd, hx, hr, Result.andThen]
  exact hK _ h2
end
theorem size_u : (Try.prog.info? 5).map (·.size) = some 1 := by kernel_rfl

/-- A part of a sector is filled. -/
theorem flat_fill (k : Nat) (hk : 0 < k) (L : List (List Value)) (h : ∀ s ∈ L, s.length = k) (i : Nat) (hi : i < L.length) (cs : List Value) (hc : cs.length ≤ k) : splice L.flatten (i * k) cs = (L.set i (cs ++ (L[i]).drop cs.length)).flatten := by
  have hs : (cs ++ (L[i]).drop cs.length).length = k := by
    rw [List.length_append, List.length_drop, h _ (List.getElem_mem hi)]; omega
  rw [← flat_splice k hk L h i hi _ hs]
  have hl := flat_length k L h
  have hle : i * k + k ≤ L.length * k := by rw [← Nat.succ_mul]; exact Nat.mul_le_mul_right k hi
  apply List.ext_getElem?
  intro q
  rw [splice_get _ _ _ _ (by omega), splice_get _ _ _ _ (by rw [hs]; omega), hs]
  by_cases h1 : i * k ≤ q ∧ q < i * k + cs.length
  · rw [if_pos h1, if_pos ⟨h1.1, by omega⟩, List.getElem?_append_left (by omega)]
  · rw [if_neg h1]
    by_cases h2 : i * k ≤ q ∧ q < i * k + k
    · rw [if_pos h2, List.getElem?_append_right (by omega), List.getElem?_drop]
      have := flat_get k hk L h i (q - i * k) hi (by omega)
      rw [show i * k + (q - i * k) = q from by omega] at this
      rw [this]
      congr 1
      omega
    · rw [if_neg h2]
end Go.Proofs.Ytpebpchnkhbcfaa
