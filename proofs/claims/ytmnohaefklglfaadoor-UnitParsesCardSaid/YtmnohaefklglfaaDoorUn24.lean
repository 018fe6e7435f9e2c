/- The document's answer for units: what a line says (farrierref13.line): what it hands back. -/
import Derived.Test.YtmnohaefklglfaaDoorUn23
import Derived.Deep.DeepCutAuto
import Derived.Deep.CutBlock
namespace Go.Proofs.YtmnohaefklglfaaDoor
open Go.RowKit
open Go.ChangeMaps (setBlock)
set_option linter.unusedVariables false
set_option linter.unusedSimpArgs false
set_option maxRecDepth 100000

def refR (u : UD) : Int := match u.retry with
  | none => -1
  | some d => (d : Int)
structure UnitB (Q : Nat → Prop) (w : World) (v0 v1 v2 v3 v4 v5 : Value) (l0 l1 l2 l3 l4 l5 : List (List UInt8)) : Prop where
  s0 : StsQ Q w v0 l0
  s1 : StsQ Q w v1 l1
  s2 : StsQ Q w v2 l2
  s3 : StsQ Q w v3 l3
  s4 : StsQ Q w v4 l4
  s5 : StsQ Q w v5 l5
theorem UnitB.later {Q : Nat → Prop} {w w' : World} {v0 v1 v2 v3 v4 v5 : Value} {l0 l1 l2 l3 l4 l5 : List (List UInt8)} (h : UnitB Q w v0 v1 v2 v3 v4 v5 l0 l1 l2 l3 l4 l5) (hb : Below w.heap.size w w') : UnitB Q w' v0 v1 v2 v3 v4 v5 l0 l1 l2 l3 l4 l5 :=
  ⟨h.s0.later hb, h.s1.later hb, h.s2.later hb, h.s3.later hb, h.s4.later hb, h.s5.later hb⟩
theorem UnitB.imp {Q R : Nat → Prop} {w : World} {v0 v1 v2 v3 v4 v5 : Value} {l0 l1 l2 l3 l4 l5 : List (List UInt8)} (h : UnitB Q w v0 v1 v2 v3 v4 v5 l0 l1 l2 l3 l4 l5) (hq : ∀ g, g < w.heap.size → Q g → R g) : UnitB R w v0 v1 v2 v3 v4 v5 l0 l1 l2 l3 l4 l5 :=
  ⟨h.s0.imp hq, h.s1.imp hq, h.s2.imp hq, h.s3.imp hq, h.s4.imp hq, h.s5.imp hq⟩
theorem UnitB.turn {Q : Nat → Prop} {w : World} {v0 v1 v2 v3 v4 v5 : Value} {l0 l1 l2 l3 l4 l5 : List (List UInt8)} (h : UnitB Q w v0 v1 v2 v3 v4 v5 l0 l1 l2 l3 l4 l5) {b : Nat} (hb : b < w.heap.size) (hq : ¬ Q b) (x : Obj) : UnitB Q (setBlock w b x) v0 v1 v2 v3 v4 v5 l0 l1 l2 l3 l4 l5 :=
  ⟨h.s0.turn hb hq x, h.s1.turn hb hq x, h.s2.turn hb hq x, h.s3.turn hb hq x, h.s4.turn hb hq x, h.s5.turn hb hq x⟩
/-- A unit's value as the document's answer has it, whose lists lie in certain blocks. -/
def UnitQ (Q : Nat → Prop) (w : World) (v : Value) (u : UD) : Prop := ∃ v0 v1 v2 v3 v4 v5 l0 l1 l2 l3 l4 l5, v = .agg #[.string (toB u.name), v0, v1, v2, v3, v4, v5, .int .i64 (refR u)] ∧ u.ls = [l0, l1, l2, l3, l4, l5] ∧ UnitB Q w v0 v1 v2 v3 v4 v5 l0 l1 l2 l3 l4 l5
theorem UnitQ.later {Q : Nat → Prop} {w w' : World} {v : Value} {u : UD} (h : UnitQ Q w v u) (hb : Below w.heap.size w w') : UnitQ Q w' v u := by
  obtain ⟨v0, v1, v2, v3, v4, v5, l0, l1, l2, l3, l4, l5, e1, e2, h3⟩ := h
  exact ⟨v0, v1, v2, v3, v4, v5, l0, l1, l2, l3, l4, l5, e1, e2, h3.later hb⟩
theorem UnitQ.turn {Q : Nat → Prop} {w : World} {v : Value} {u : UD} (h : UnitQ Q w v u) {b : Nat} (hb : b < w.heap.size) (hq : ¬ Q b) (x : Obj) : UnitQ Q (setBlock w b x) v u := by
  obtain ⟨v0, v1, v2, v3, v4, v5, l0, l1, l2, l3, l4, l5, e1, e2, h3⟩ := h
  exact ⟨v0, v1, v2, v3, v4, v5, l0, l1, l2, l3, l4, l5, e1, e2, h3.turn hb hq x⟩
theorem UnitQ.w {Q : Nat → Prop} {w : World} {v : Value} {u : UD} (h : UnitQ Q w v u) : UnitW w v u.name u.ls (refR u) := by
  obtain ⟨v0, v1, v2, v3, v4, v5, l0, l1, l2, l3, l4, l5, e1, e2, h3⟩ := h
  exact ⟨v0, v1, v2, v3, v4, v5, l0, l1, l2, l3, l4, l5, e1, e2, ⟨h3.s0.1, h3.s1.1, h3.s2.1, h3.s3.1, h3.s4.1, h3.s5.1⟩⟩

theorem cutL_at {l : List UInt8} {k : Nat} (h : (32 : UInt8) ∉ l.take k) (hk : k < l.length) (hc : l[k] = 32) : cutL l = (l.take k, l.drop (k + 1)) := by
  have e : l = l.take k ++ 32 :: l.drop (k + 1) := by
    rw [← hc, List.getElem_cons_drop, List.take_append_drop]
  rw [e, cutL_word h, ← e]
theorem cutL_none {l : List UInt8} (h : (32 : UInt8) ∉ l) : cutL l = (l, []) := by
  induction l with
  | nil => rfl
  | cons c l ih =>
    have h1 : c ≠ 32 := fun e => h (e ▸ List.mem_cons_self ..)
    rw [show cutL (c :: l) = if c = 32 then ([], l) else (c :: (cutL l).1, (cutL l).2) from rfl, if_neg h1, ih fun hm => h (List.mem_cons_of_mem _ hm)]
theorem byte_32 (c : UInt8) : ((c.toNat : Int) == 32) = decide (c = 32) := by
  rw [Bool.eq_iff_iff, beq_iff_eq, decide_eq_true_iff]
  constructor
  · intro h
    have : c.toNat = 32 := by omega
    exact UInt8.toNat_inj.1 this
  · rintro rfl; rfl
theorem results_line {fn : Func} {p q : Tmp} {ty : TypeId} (h : fn.results = #[.cell p ty, .tmp q]) (tmps : Array Value) (P : Program) (w : World) :
    (results fn tmps).run P w = ((asAddr (tmps.getD p undef)).run P w).andThen fun a w1 => ((loadVar ty a).run P w1).andThen fun v w2 => .ok (.tuple #[v, tmps.getD q undef]) w2 := by
  simp only [results, h]
  simp [Sem.run_bind, Result.andThen]
theorem ret_line {tmps : Array Value} {w : World} {a : Nat} {v0 v1 v2 v3 v4 v5 v6 v7 n : Value} (hp : tmps.getD 4 undef = .pointer (some ⟨a, 0, none⟩)) (hq : tmps.getD 5 undef = n)
    (h1 : w.heap[a]? = some (.cells #[v0, v1, v2, v3, v4, v5, v6, v7] 31)) :
    (results Tryd.f18 tmps).run Tryd.prog w = .ok (.tuple #[.agg #[v0, v1, v2, v3, v4, v5, v6, v7], n]) w := by
  rw [results_line Tryd.results18, hp, hq]
  have ea : ∀ (x : Nat) (w : World), (asAddr (.pointer (some ⟨x, 0, none⟩))).run Tryd.prog w = .ok ⟨x, 0, none⟩ w := fun _ _ => rfl
  have hi : (Tryd.prog.info? 31).map (·.size) = some 8 := by kernel_rfl
  have r1 : w.rangeAt a 0 [v0, v1, v2, v3, v4, v5, v6, v7] := fun j v hj => by
    rw [Nat.zero_add, cell_at h1 j]; simpa using hj
  rw [ea]
  simp only [Result.andThen_ok, run_loadVar_mid w a 0 31 _ _ r1 Tryd.underlying31 rfl hi]
end Go.Proofs.YtmnohaefklglfaaDoor
