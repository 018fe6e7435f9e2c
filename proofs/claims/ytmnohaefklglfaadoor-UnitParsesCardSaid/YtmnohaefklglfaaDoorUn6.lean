/- The map of a unit's lists. -/
import Derived.Test.YtmnohaefklglfaaDoorUn5
namespace Go.Proofs.YtmnohaefklglfaaDoor
open Go.RowKit
open Go.ChangeMaps (setBlock)
set_option linter.unusedVariables false
set_option linter.unusedSimpArgs false
set_option maxRecDepth 100000

theorem run_mkU (t : TypeId) (w : World) : Sem.run Tryd.prog (Instr.makeMap t none) w = .ok (.map (some w.heap.size)) (w.alloc (.map #[] 0)) := by
  simp [Instr.makeMap, newObj]
  rfl
theorem ins_step {W : World} {b : Nat} {o : Obj} {m : List (ByteArray × Value)} (h : MapO KS o m) (hb : W.heap[b]? = some o) (k : ByteArray) (v : Value) :
    ∃ W' o', (Instr.mapUpdate 45 (.map (some b)) (.string k) v).run Tryd.prog W = .ok () W' ∧ W'.heap[b]? = some o' ∧ MapO KS o' (put m k v) ∧ (∀ c, c ≠ b → W'.heap[c]? = W.heap[c]?) ∧ W'.heap.size = W.heap.size ∧ ∀ n, n ≤ b → Below n W W' := by
  obtain ⟨o', h1, h2⟩ := h.update kindsS Tryd.underlying45 hb k v
  obtain ⟨s1, s2, s3⟩ := setBlock_heap W b o' (lt_of_heap hb)
  exact ⟨_, o', h1, s1, h2, s2, s3, fun n hn => ⟨rfl, rfl, rfl, Nat.le_of_eq s3.symm, fun k hk => s2 k (by omega)⟩⟩
theorem look_put_any (m : List (ByteArray × Value)) (a x : ByteArray) (v : Value) : look (put m a v) x = if x = a then some v else look m x := by
  induction m with
  | nil =>
    show (if a = x then some v else none) = if x = a then some v else none
    by_cases h : x = a
    · rw [if_pos h, if_pos h.symm]
    · rw [if_neg h, if_neg (fun e => h e.symm)]
  | cons p r ih =>
    unfold put
    by_cases hp : p.1 = a
    · rw [if_pos hp]
      unfold look
      by_cases h : x = a
      · rw [if_pos h, if_pos h.symm]
      · rw [if_neg h, if_neg (fun e => h e.symm), if_neg (fun e => h (by rw [← e, hp]))]
    · rw [if_neg hp]
      unfold look
      by_cases h : p.1 = x
      · rw [if_pos h, if_pos h, if_neg (fun e => hp (by rw [h, e]))]
      · rw [if_neg h, if_neg h, ih]
/-- The region in which the map is filled: in whatever order. -/
noncomputable def opsF : Array Oper := match Tryd.f15.body with
  | some (.seq _ (.seq (.region _ ops _) _)) => ops
  | _ => #[]
def doneF (c : Nat → Bool) : Array Bool := #[true, true, true, true, c 0, true, true, true, c 1, true, true, true, c 2, true, true, true, c 3, true, true, true, c 4, true, true, true, c 5, false, false]
def withF (c : Nat → Bool) (j : Nat) : Nat → Bool := fun k => if k = j then true else c k
def one (b : Bool) : Nat := if b then 0 else 1
def leftF (c : Nat → Bool) : Nat := one (c 0) + one (c 1) + one (c 2) + one (c 3) + one (c 4) + one (c 5)
theorem ready_all : ∀ c0 c1 c2 c3 c4 c5 : Bool, ((Region.ready .any opsF #[true, true, true, true, c0, true, true, true, c1, true, true, true, c2, true, true, true, c3, true, true, true, c4, true, true, true, c5, false, false]).all fun i =>
    (i == 4 && !c0) || (i == 8 && !c1) || (i == 12 && !c2) || (i == 16 && !c3) || (i == 20 && !c4) || (i == 24 && !c5) || (i == 25 && (c0 && c1 && c2 && c3 && c4 && c5))) = true := by decide +kernel
theorem ready_some : ∀ c0 c1 c2 c3 c4 c5 : Bool, (Region.ready .any opsF #[true, true, true, true, c0, true, true, true, c1, true, true, true, c2, true, true, true, c3, true, true, true, c4, true, true, true, c5, false, false]).isEmpty = false := by decide +kernel
theorem ready_dec (c0 c1 c2 c3 c4 c5 : Bool) (i : Nat) (hi : i ∈ Region.ready .any opsF #[true, true, true, true, c0, true, true, true, c1, true, true, true, c2, true, true, true, c3, true, true, true, c4, true, true, true, c5, false, false]) :
    (i = 4 ∧ c0 = false) ∨ (i = 8 ∧ c1 = false) ∨ (i = 12 ∧ c2 = false) ∨ (i = 16 ∧ c3 = false) ∨ (i = 20 ∧ c4 = false) ∨ (i = 24 ∧ c5 = false) ∨ (i = 25 ∧ c0 = true ∧ c1 = true ∧ c2 = true ∧ c3 = true ∧ c4 = true ∧ c5 = true) := by
  have h := List.all_eq_true.1 (ready_all c0 c1 c2 c3 c4 c5) i hi
  simp only [Bool.or_eq_true, Bool.and_eq_true, beq_iff_eq, Bool.not_eq_true'] at h
  rcases h with (((((h | h) | h) | h) | h) | h) | ⟨h, ⟨⟨⟨⟨q0, q1⟩, q2⟩, q3⟩, q4⟩, q5⟩
  · exact .inl h
  · exact .inr (.inl h)
  · exact .inr (.inr (.inl h))
  · exact .inr (.inr (.inr (.inl h)))
  · exact .inr (.inr (.inr (.inr (.inl h))))
  · exact .inr (.inr (.inr (.inr (.inr (.inl h)))))
  · exact .inr (.inr (.inr (.inr (.inr (.inr ⟨h, q0, q1, q2, q3, q4, q5⟩)))))
/-- What the map has so far. -/
def InF (ub b : Nat) (w0 : World) (c : Nat → Bool) (w : World) : Prop :=
  Below b w0 w ∧ ∃ o m, w.heap[b]? = some o ∧ MapO KS o m ∧ ∀ x, look m (toB x) = (wordAt x).bind fun k => if c k then some (.pointer (some ⟨ub, 1 + k, none⟩)) else none
theorem InF.step {ub b : Nat} {w0 w : World} {c : Nat → Bool} (h : InF ub b w0 c w) (j : Nat) (x : List UInt8) (hx : wordAt x = some j) :
    ∃ w', (Instr.mapUpdate 45 (.map (some b)) (.string (toB x)) (.pointer (some ⟨ub, 1 + j, none⟩))).run Tryd.prog w = .ok () w' ∧ InF ub b w0 (withF c j) w' := by
  obtain ⟨hb, o, m, h1, h2, h3⟩ := h
  obtain ⟨W', o', e1, e2, e3, _, _, e4⟩ := ins_step h2 h1 (toB x) (.pointer (some ⟨ub, 1 + j, none⟩))
  refine ⟨W', e1, hb.trans (e4 b (Nat.le_refl _)), o', _, e2, e3, fun y => ?_⟩
  rw [look_put_any]
  by_cases hy : y = x
  · subst hy
    rw [if_pos rfl, hx]
    simp [withF]
  · rw [if_neg (fun e => hy (toB_inj e)), h3 y]
    cases hk : wordAt y with
    | none => rfl
    | some k =>
      have hkj : k ≠ j := fun e => by
        subst e
        have q1 := (findW_lt hk).2
        have q2 := (findW_lt hx).2
        rw [q1] at q2
        exact hy (Option.some.inj q2)
      simp [withF, hkj]
theorem wpOp_ins {Q : Exit → Act → World → Prop} {i : Nat} {o : Oper} {a : Act} {w w' : World} {K : Act → World → Prop} (ho : opsF[i]? = some o) (hg : o.guard = none) (hd : o.dst = none) {key : ByteArray} {val : Value} {t : Nat} {b : Nat}
    (hop : o.op = .insert 45 (.tmp 3) (.const (.string key)) (.tmp t)) (hm : a.eval (.tmp 3) = .map (some b)) (hv : a.eval (.tmp t) = val)
    (hrun : (Instr.mapUpdate 45 (.map (some b)) (.string key) val).run Tryd.prog w = .ok () w') (hK : K a w') : wpOp Tryd.prog opsF Q i K a w := by
  refine wpOp_step ho fun K' hK' => ?_
  rw [if_pos (by unfold Region.wanted; rw [hg])]
  unfold Oper.wp
  have hc : a.eval (.const (.string key)) = .string key := rfl
  simp [execOp, hop, hm, hc, hv, hrun, Result.andThen]
  show K' (a.put o.dst undef) w'
  rw [hd]
  exact hK' _ _ hK
theorem fill_any {Q : Exit → Act → World → Prop} {ub b : Nat} {w0 : World} {a : Act} (hm : a.eval (.tmp 3) = .map (some b)) (v0 : a.eval (.tmp 6) = .pointer (some ⟨ub, 1, none⟩)) (v1 : a.eval (.tmp 9) = .pointer (some ⟨ub, 2, none⟩)) (v2 : a.eval (.tmp 12) = .pointer (some ⟨ub, 3, none⟩)) (v3 : a.eval (.tmp 15) = .pointer (some ⟨ub, 4, none⟩)) (v4 : a.eval (.tmp 18) = .pointer (some ⟨ub, 5, none⟩)) (v5 : a.eval (.tmp 21) = .pointer (some ⟨ub, 6, none⟩))
    (hQ : ∀ c w, c 0 = true → c 1 = true → c 2 = true → c 3 = true → c 4 = true → c 5 = true → InF ub b w0 c w → wpAny Tryd.prog .any opsF Q 2 (doneF c) a w) : ∀ (f : Nat) (c : Nat → Bool) (w : World), leftF c = f → InF ub b w0 c w → wpAny Tryd.prog .any opsF Q (f + 2) (doneF c) a w := by
  intro f
  induction f with
  | zero =>
    intro c w hf hI
    unfold leftF one at hf
    refine hQ c w ?_ ?_ ?_ ?_ ?_ ?_ hI
    all_goals (revert hf; cases c 0 <;> cases c 1 <;> cases c 2 <;> cases c 3 <;> cases c 4 <;> cases c 5 <;> simp)
  | succ f ih =>
    intro c w hf hI
    have hr := ready_dec (c 0) (c 1) (c 2) (c 3) (c 4) (c 5)
    have left : ∀ j, j < 6 → c j = false → leftF (withF c j) = f := fun j hj hc => by
      unfold leftF at hf ⊢
      match j, hj with
      | 0, _ => simp only [withF, one, hc] at hf ⊢; simp at hf ⊢; omega
      | 1, _ => simp only [withF, one, hc] at hf ⊢; simp at hf ⊢; omega
      | 2, _ => simp only [withF, one, hc] at hf ⊢; simp at hf ⊢; omega
      | 3, _ => simp only [withF, one, hc] at hf ⊢; simp at hf ⊢; omega
      | 4, _ => simp only [withF, one, hc] at hf ⊢; simp at hf ⊢; omega
      | 5, _ => simp only [withF, one, hc] at hf ⊢; simp at hf ⊢; omega
    refine ⟨fun h0 => ?_, fun i hi => ?_⟩
    · exfalso
      have := ready_some (c 0) (c 1) (c 2) (c 3) (c 4) (c 5)
      rw [show Region.ready .any opsF #[true, true, true, true, c 0, true, true, true, c 1, true, true, true, c 2, true, true, true, c 3, true, true, true, c 4, true, true, true, c 5, false, false] = [] from h0] at this
      cases this
    · rcases hr i hi with ⟨rfl, hc⟩ | ⟨rfl, hc⟩ | ⟨rfl, hc⟩ | ⟨rfl, hc⟩ | ⟨rfl, hc⟩ | ⟨rfl, hc⟩ | ⟨rfl, q0, q1, q2, q3, q4, q5⟩
      · obtain ⟨w', e1, e2⟩ := hI.step 0 [102, 105, 108, 101] rfl
        exact wpOp_ins (o := opsF[4]'(by decide +kernel)) rfl rfl rfl rfl hm v0 e1 (ih (withF c 0) w' (left 0 (by omega) hc) e2)
      · obtain ⟨w', e1, e2⟩ := hI.step 1 [97, 102, 116, 101, 114] rfl
        exact wpOp_ins (o := opsF[8]'(by decide +kernel)) rfl rfl rfl rfl hm v1 e1 (ih (withF c 1) w' (left 1 (by omega) hc) e2)
      · obtain ⟨w', e1, e2⟩ := hI.step 2 [98, 101, 102, 111, 114, 101] rfl
        exact wpOp_ins (o := opsF[12]'(by decide +kernel)) rfl rfl rfl rfl hm v2 e1 (ih (withF c 2) w' (left 2 (by omega) hc) e2)
      · obtain ⟨w', e1, e2⟩ := hI.step 3 [114, 101, 113, 117, 105, 114, 101, 115] rfl
        exact wpOp_ins (o := opsF[16]'(by decide +kernel)) rfl rfl rfl rfl hm v3 e1 (ih (withF c 3) w' (left 3 (by omega) hc) e2)
      · obtain ⟨w', e1, e2⟩ := hI.step 4 [119, 97, 110, 116, 115] rfl
        exact wpOp_ins (o := opsF[20]'(by decide +kernel)) rfl rfl rfl rfl hm v4 e1 (ih (withF c 4) w' (left 4 (by omega) hc) e2)
      · obtain ⟨w', e1, e2⟩ := hI.step 5 [112, 97, 114, 116, 111, 102] rfl
        exact wpOp_ins (o := opsF[24]'(by decide +kernel)) rfl rfl rfl rfl hm v5 e1 (ih (withF c 5) w' (left 5 (by omega) hc) e2)
      · exfalso
        unfold leftF at hf
        simp [q0, q1, q2, q3, q4, q5, one] at hf
end Go.Proofs.YtmnohaefklglfaaDoor
