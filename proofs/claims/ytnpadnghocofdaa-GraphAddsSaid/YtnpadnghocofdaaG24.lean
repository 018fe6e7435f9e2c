/- Rows of units that grow in front: what the law GraphAdds makes. -/
import Derived.Test.YtnpadnghocofdaaG23
import Derived.Test.YtnpadnghocofdaaG17
namespace Go.Proofs.Ytnpadnghocofdaa
open Go.RowKit
open Go.ChangeMaps (setBlock)
set_option linter.unusedVariables false
set_option linter.unusedSimpArgs false
set_option maxRecDepth 100000

theorem info_unit : (Try.prog.info? 34).map (fun i => (i.zero, i.size, i.bytes)) = some (some (.agg #[.string ⟨#[]⟩, .slice none 0 0, .slice none 0 0, .slice none 0 0, .slice none 0 0, .slice none 0 0, .slice none 0 0, .int .i64 0]), 8, 168) := by kernel_rfl
theorem info_unit_ex : ∃ i, Try.prog.info? 34 = some i ∧ i.zero = some (.agg #[.string ⟨#[]⟩, .slice none 0 0, .slice none 0 0, .slice none 0 0, .slice none 0 0, .slice none 0 0, .slice none 0 0, .int .i64 0]) ∧ i.size = 8 ∧ i.bytes = 168 := by
  have := info_unit
  obtain ⟨i, h1, h2⟩ := Option.map_eq_some_iff.1 this
  simp only [Prod.mk.injEq] at h2
  exact ⟨i, h1, h2.1, h2.2.1, h2.2.2⟩
theorem Units.ones {w : World} {xs : List UV} {us : List GU} (h : Units w xs us) : ∀ v ∈ flatU xs, Value.oneCell' v = true := by
  induction h with
  | nil => intro v hv; cases hv
  | cons h1 _ ih =>
    intro v hv
    unfold flatU at hv ih
    rw [List.map_cons, List.flatten_cons] at hv
    rcases List.mem_append.1 hv with hv | hv
    · exact h1.one v hv
    · exact ih v hv
theorem flatU_get {xs : List UV} {j : Nat} {u : Value} (h : (flatU xs)[j]? = some u) : ∃ i, ∃ hi : i < xs.length, i * 8 ≤ j ∧ xs[i].cells[j - i * 8]? = some u := by
  have hj : j < (flatU xs).length := (List.getElem?_eq_some_iff.1 h).1
  rw [flatU_len] at hj
  refine ⟨j / 8, by omega, by omega, ?_⟩
  rw [← flatU_at xs (j / 8) (by omega), List.getElem?_take_of_lt (by omega), List.getElem?_drop, show j / 8 * 8 + (j - j / 8 * 8) = j from by omega]
  exact h
/-- Units that are handed in, as what is appended. -/
theorem src_units {w : World} {v : Value} {us : List GU} (h : UArg w v us) (hz : v = .slice none 0 0 ∨ ∃ a n c, v = .slice (some a) n c) : ∃ xs, Units w xs us ∧ (∀ x ∈ xs, x.nilOk) ∧ Src w v us.length (flatU xs) ∧ ∀ a n c, v = .slice a n c → ∀ i (hi : i < xs.length), ∃ b o, a = some ⟨b, o, none⟩ ∧ w.rangeAt b (o + i * 8) xs[i].cells := by
  obtain ⟨a, c, xs, rfl, hU, hR⟩ := h
  have hnil : ∀ x ∈ xs, x.nilOk := fun x hx => by
    obtain ⟨i, hi, rfl⟩ := List.getElem_of_mem hx
    exact (hR i hi).2
  have hrr : ∀ a' n' c', Value.slice a us.length c = .slice a' n' c' → ∀ i (hi : i < xs.length), ∃ b o, a' = some ⟨b, o, none⟩ ∧ w.rangeAt b (o + i * 8) xs[i].cells := fun a' n' c' e i hi => by
    obtain ⟨⟨b, o, e2, hr⟩, _⟩ := hR i hi
    exact ⟨b, o, (Value.slice.inj e).1 ▸ e2, hr⟩
  refine ⟨xs, hU, hnil, ?_, hrr⟩
  rcases hz with e | ⟨a', n', c', e⟩
  · injection e with e1 e2 e3
    have hx : xs = [] := List.eq_nil_of_length_eq_zero (by rw [hU.len, e2])
    subst hx
    exact .inl ⟨by rw [e1, e2, e3], e2, rfl⟩
  · injection e with e1 e2 e3
    subst e1 e2 e3
    refine .inr ⟨a', c, rfl, fun j u hj => ?_, hU.ones⟩
    obtain ⟨i, hi, hle, hc⟩ := flatU_get hj
    obtain ⟨⟨b, o, e, hr⟩, _⟩ := hR i hi
    injection e with e
    subst e
    have := hr _ _ hc
    rw [Addr.add_mid]
    rw [show o + j = o + i * 8 + (j - i * 8) from by omega]
    exact this
def uvM : UV := ⟨[109], .slice none 0 0, .slice none 0 0, .slice none 0 0, .slice none 0 0, .slice none 0 0, .slice none 0 0, 0⟩
theorem uvM_is (w : World) : UVIs w uvM gM := ⟨rfl, rfl, sts_nil w, sts_nil w, sts_nil w, sts_nil w, sts_nil w, sts_nil w⟩
theorem uvM_nil : uvM.nilOk := fun v hv => by
  simp only [uvM, List.mem_cons, List.not_mem_nil, or_false] at hv
  rcases hv with rfl | rfl | rfl | rfl | rfl | rfl <;> exact .inl rfl
theorem flatU_cons (x : UV) (l : List UV) : flatU (x :: l) = x.cells ++ flatU l := by
  unfold flatU
  rw [List.map_cons, List.flatten_cons]
theorem more_arg {W0 : Base} {w : World} {L : List Rw} {xs : List UV} {us : List GU} {v : Value} (h : Own W0 w (⟨34, 8, v, 1 + us.length, uvM.cells ++ flatU xs⟩ :: L)) (hu : Units w xs us) (hz : ∀ x ∈ xs, x.nilOk) : UArg w v (gM :: us) := by
  refine uarg_of (W0 := W0) (L := L) (xs := uvM :: xs) ?_ (.cons (uvM_is w) hu) (fun x hx => by
    rcases List.mem_cons.1 hx with rfl | hx
    · exact uvM_nil
    · exact hz x hx)
  rw [flatU_cons, List.length_cons, Nat.add_comm]
  exact h
theorem units_take {w : World} {xs : List UV} {us : List GU} (h : Units w xs us) : ∀ k, Units w (xs.take k).reverse (us.take k).reverse := by
  have snoc : ∀ {a : List UV} {b : List GU} {x : UV} {u : GU}, Units w a b → UVIs w x u → Units w (a ++ [x]) (b ++ [u]) := by
    intro a b x u h hx
    induction h with
    | nil => exact .cons hx .nil
    | cons h1 _ ih => exact .cons h1 ih
  induction h with
  | nil => intro k; simp; exact .nil
  | cons h1 _ ih =>
    intro k
    cases k with
    | zero => exact .nil
    | succ k =>
      simp only [List.take_succ_cons, List.reverse_cons]
      exact snoc (ih k) h1
theorem cut_oneG {W0 : Base} {w : World} {r a b : Rw} (h : Own W0 w [r, a, b]) : Own W0 w [r] :=
  (h.perm (show [r, a, b].Perm [a, b, r] from (List.Perm.swap a r [b]).trans ((List.Perm.swap b r []).cons a))).tail.tail
theorem own_third {W0 : Base} {w : World} {r a b : Rw} (h : Own W0 w [a, b, r]) : Own W0 w [r, a, b] :=
  h.perm ((show [r, a, b].Perm [a, b, r] from (List.Perm.swap a r [b]).trans ((List.Perm.swap b r []).cons a)).symm)
theorem src_own {W0 : Base} {w : World} {L : List Rw} {g k c : Nat} {cs : List Value} (h : Own W0 w (⟨34, 8, .slice (some ⟨g, 0, none⟩) k c, k, cs⟩ :: L)) (ho : ∀ u ∈ cs, Value.oneCell' u = true) (hl : cs.length = k * 8) : Src w (.slice (some ⟨g, 0, none⟩) k c) k cs :=
  .inr ⟨_, _, rfl, fun j u hj => by
    have hjl : j < cs.length := (List.getElem?_eq_some_iff.1 hj).1
    rw [Addr.add_mid, Nat.zero_add, h.cell j (by omega)]
    exact hj, ho⟩
theorem flatU_snoc {xs : List UV} {k : Nat} (hk : k < xs.length) : flatU (xs.take (k + 1)).reverse = xs[k].cells ++ flatU (xs.take k).reverse := by
  rw [List.take_succ_eq_append_getElem hk, List.reverse_append]
  exact flatU_cons _ _
theorem bnd_more {us : List GU} (h : ∀ u ∈ us, Bnd u) : ∀ u ∈ gM :: us, Bnd u := fun u hu => by
  rcases List.mem_cons.1 hu with rfl | hu
  · exact bnd_small (by decide)
  · exact h u hu
end Go.Proofs.Ytnpadnghocofdaa
