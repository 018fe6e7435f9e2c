/- The document's answer for units: farrierref13.Parse. -/
import Derived.Test.YtmnohaefklglfaaDoorUn34
namespace Go.Proofs.YtmnohaefklglfaaDoor
open Go.RowKit
open Go.ChangeMaps (setBlock)
set_option linter.unusedVariables false
set_option linter.unusedSimpArgs false
set_option maxRecDepth 100000

/-- Lines that were taken off a text, where the next begins, how far it was read. -/
structure Prog (l : List UInt8) (done : List (List UInt8)) (f k : Nat) : Prop where
  fk : f ≤ k
  on : k ≤ l.length → linesL l = done ++ linesL (l.drop f) ∧ (10 : UInt8) ∉ (l.drop f).take (k - f)
  off : k = l.length + 1 → linesL l = done
theorem Prog.start (l : List UInt8) : Prog l [] 0 0 := ⟨Nat.le_refl _, fun _ => ⟨by simp, by simp⟩, fun h => by omega⟩
theorem Prog.next {l : List UInt8} {done : List (List UInt8)} {f k : Nat} (h : Prog l done f k) (hk : k < l.length) (hc : l[k] ≠ 10) : Prog l done f (k + 1) := by
  obtain ⟨h1, h2⟩ := h.on (by omega)
  refine ⟨by have := h.fk; omega, fun _ => ⟨h1, ?_⟩, fun e => by omega⟩
  have hfk := h.fk
  rw [show k + 1 - f = (k - f) + 1 by omega, List.take_succ_eq_append_getElem (by rw [List.length_drop]; omega)]
  intro hm
  rcases List.mem_append.1 hm with hm | hm
  · exact h2 hm
  · have := List.mem_singleton.1 hm
    rw [List.getElem_drop] at this
    exact hc (by rw [this]; congr 1; omega)
theorem Prog.line {l : List UInt8} {done : List (List UInt8)} {f k : Nat} (h : Prog l done f k) (hk : k < l.length) (hc : l[k] = 10) : Prog l (done ++ [(l.drop f).take (k - f)]) (k + 1) (k + 1) := by
  obtain ⟨h1, h2⟩ := h.on (by omega)
  have hfk := h.fk
  have e : l.drop f = (l.drop f).take (k - f) ++ 10 :: l.drop (k + 1) := by
    have e1 : (l.drop f).drop (k - f) = 10 :: l.drop (k + 1) := by
      rw [List.drop_drop, show f + (k - f) = k by omega, ← hc, List.getElem_cons_drop]
    rw [← e1, List.take_append_drop]
  refine ⟨Nat.le_refl _, fun _ => ⟨?_, by simp⟩, fun e2 => by omega⟩
  rw [h1]
  conv => lhs; rw [e, lines_line h2]
  simp
theorem Prog.last {l : List UInt8} {done : List (List UInt8)} {f k : Nat} (h : Prog l done f k) (hk : k = l.length) : Prog l (done ++ [(l.drop f).take (k - f)]) (k + 1) (k + 1) := by
  obtain ⟨h1, h2⟩ := h.on (by omega)
  have e : (l.drop f).take (k - f) = l.drop f := List.take_of_length_le (by rw [List.length_drop]; omega)
  rw [e] at h2 ⊢
  exact ⟨Nat.le_refl _, fun e2 => by omega, fun _ => by rw [h1, lines_last h2]⟩
theorem results_ref {fn : Func} {p q r : Tmp} {ty : TypeId} (h : fn.results = #[.cell p ty, .tmp q, .tmp r]) (tmps : Array Value) (P : Program) (w : World) :
    (results fn tmps).run P w = ((asAddr (tmps.getD p undef)).run P w).andThen fun a w1 => ((loadVar ty a).run P w1).andThen fun v w2 => .ok (.tuple #[v, tmps.getD q undef, tmps.getD r undef]) w2 := by
  simp only [results, h]
  simp [Sem.run_bind, Result.andThen]
theorem ret_ref {tmps : Array Value} {w : World} {a : Nat} {v0 v1 v2 v3 v4 v5 v6 v7 n m : Value} (hp : tmps.getD 2 undef = .pointer (some ⟨a, 0, none⟩)) (hq : tmps.getD 3 undef = n) (hr : tmps.getD 4 undef = m)
    (h1 : w.heap[a]? = some (.cells #[v0, v1, v2, v3, v4, v5, v6, v7] 31)) :
    (results Tryd.f8 tmps).run Tryd.prog w = .ok (.tuple #[.agg #[v0, v1, v2, v3, v4, v5, v6, v7], n, m]) w := by
  rw [results_ref Tryd.results8, hp, hq, hr]
  have ea : ∀ (x : Nat) (w : World), (asAddr (.pointer (some ⟨x, 0, none⟩))).run Tryd.prog w = .ok ⟨x, 0, none⟩ w := fun _ _ => rfl
  have hi : (Tryd.prog.info? 31).map (·.size) = some 8 := by kernel_rfl
  have r1 : w.rangeAt a 0 [v0, v1, v2, v3, v4, v5, v6, v7] := fun j v hj => by
    rw [Nat.zero_add, cell_at h1 j]; simpa using hj
  rw [ea]
  simp only [Result.andThen_ok, run_loadVar_mid w a 0 31 _ _ r1 Tryd.underlying31 rfl hi]
theorem UnitQ.parts {Q : Nat → Prop} {w : World} {v : Value} {u : UD} (h : UnitQ Q w v u) : ∃ (n : ByteArray) (a0 a1 a2 a3 a4 a5 : Option Addr) (m0 m1 m2 m3 m4 m5 c0 c1 c2 c3 c4 c5 : Nat) (r : Int), v = .agg #[.string n, .slice a0 m0 c0, .slice a1 m1 c1, .slice a2 m2 c2, .slice a3 m3 c3, .slice a4 m4 c4, .slice a5 m5 c5, .int .i64 r] ∧ n = toB u.name ∧ m0 = (listU u 0).length ∧ r = refR u := by
  obtain ⟨v0, v1, v2, v3, v4, v5, l0, l1, l2, l3, l4, l5, rfl, e2, h3⟩ := h
  obtain ⟨a0, c0, rfl⟩ := h3.s0.slice
  obtain ⟨a1, c1, rfl⟩ := h3.s1.slice
  obtain ⟨a2, c2, rfl⟩ := h3.s2.slice
  obtain ⟨a3, c3, rfl⟩ := h3.s3.slice
  obtain ⟨a4, c4, rfl⟩ := h3.s4.slice
  obtain ⟨a5, c5, rfl⟩ := h3.s5.slice
  exact ⟨_, _, _, _, _, _, _, _, _, _, _, _, _, _, _, _, _, _, _, _, rfl, rfl, by unfold listU; rw [e2]; rfl, rfl⟩
/-- The document's answer that is being made. -/
structure RfSt (w : World) (s : ByteArray) (done : List (List UInt8)) (f k : Nat) (u : UD) (cs : Array Value) (W : World) : Prop where
  prog : Prog s.data.toList done f k
  run : runU UD0 0 done = (0, done.length, u)
  ok : UOk u
  below : Below w.heap.size w W
  size : w.heap.size + 1 + 1 ≤ W.heap.size
  res : W.heap[w.heap.size]? = some (.cells #[.string ⟨#[]⟩, .slice none 0 0, .slice none 0 0, .slice none 0 0, .slice none 0 0, .slice none 0 0, .slice none 0 0, .int .i64 0] 31)
  cur : W.heap[w.heap.size + 1]? = some (.cells cs 31)
  val : UnitQ (fun g => g ≠ w.heap.size ∧ g ≠ w.heap.size + 1) W (.agg cs) u
theorem lists8 {u : UD} (h : UOk u) : ∀ l ∈ u.ls, l.length ≤ 8 := fun l hl => by
  obtain ⟨k, hk, e⟩ := List.mem_iff_getElem.1 hl
  have h8 := (h.each k (by rw [← h.six]; exact hk)).2.2
  have : listU u k = l := by unfold listU; simp [hk, e]
  rwa [this] at h8
theorem step_skip {u : UD} {l : List UInt8} (h : l = [] ∨ l.head? = some 35) : stepU u l = (u, 0) := by unfold stepU; rw [if_pos h]
theorem step_line {u : UD} {l : List UInt8} (h : ¬ (l = [] ∨ l.head? = some 35)) : stepU u l = lineU u l := by unfold stepU; rw [if_neg h]
theorem byte_35 (c : UInt8) : ((c.toNat : Int) == 35) = decide (c = 35) := by
  rw [Bool.eq_iff_iff, beq_iff_eq, decide_eq_true_iff]
  constructor
  · intro h
    have : c.toNat = 35 := by omega
    exact UInt8.toNat_inj.1 this
  · rintro rfl; rfl
theorem byte_10 (c : UInt8) : ((c.toNat : Int) == 10) = decide (c = 10) := by
  rw [Bool.eq_iff_iff, beq_iff_eq, decide_eq_true_iff]
  constructor
  · intro h
    have : c.toNat = 10 := by omega
    exact UInt8.toNat_inj.1 this
  · rintro rfl; rfl
end Go.Proofs.YtmnohaefklglfaaDoor
