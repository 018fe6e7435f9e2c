/- Maps as lists of keys and values, in the order in which they came: look-up, store, delete, length. Of no program. -/
import Derived.Test.YtnjabanjgckeoaaKRec0
import Derived.Maps.RangeRun
import Derived.ChangeMaps5
namespace Go.Proofs.Ytnjabanjgckeoaa
open Go.RowKit
open Go.ChangeMaps (setBlock)
open Go.MapKept (run_checkKey run_findKey run_setObj_map bytes_beq)
set_option linter.unusedSectionVars false
set_option linter.unusedVariables false
set_option linter.unusedSimpArgs false

section
variable {P : Program} {α : Type} [DecidableEq α]

/-- Keys of a kind: how the model compares them. -/
structure Kinds (P : Program) (kt : TypeId) (K : α → Value) : Prop where
  now : ∃ d, P.underlying kt = some d ∧ (∀ a, Instr.sameNow d (K a) (K a) = some true) ∧ ∀ a b, a ≠ b → Instr.sameNow d (K a) (K b) = some false
  check : ∀ empty a w, (Instr.checkKey empty 10000 kt (K a)).run P w = .ok () w
  stays : ∀ a, Instr.sameBits 10000 (K a) (K a) = true
theorem kinds_int {kt : TypeId} (h : P.underlying kt = some (.int .i64)) : Kinds P kt (fun i : Int => Value.int .i64 i) :=
  ⟨⟨_, h, fun a => by simp [Instr.sameNow], fun a b hab => by simp [Instr.sameNow, hab]⟩, fun empty a w => run_checkKey (k := Value.int .i64 a) h (show MapKept.IsKey (.int .i64) (.int .i64 a) from rfl) empty _, fun a => by simp [Instr.sameBits]⟩
theorem kinds_string {kt : TypeId} (h : P.underlying kt = some .string) : Kinds P kt (fun s : ByteArray => Value.string s) :=
  ⟨⟨_, h, fun a => by simp [Instr.sameNow, (bytes_beq a a).2 rfl], fun a b hab => by
    have : (a == b) = false := by
      cases hb : a == b with
      | false => rfl
      | true => exact absurd ((bytes_beq a b).1 hb) hab
    simp [Instr.sameNow, this]⟩, fun empty a w => run_checkKey (k := Value.string a) h (show MapKept.IsKey .string (.string a) from trivial) empty _, fun a => by simp [Instr.sameBits, (bytes_beq a a).2 rfl]⟩

/-- What a list of keys and values tells of a key; a value more; a key less. -/
def look {β : Type} (m : List (α × β)) (a : α) : Option β := match m with
  | [] => none
  | p :: r => if p.1 = a then some p.2 else look r a
def put {β : Type} (m : List (α × β)) (a : α) (v : β) : List (α × β) := match m with
  | [] => [(a, v)]
  | p :: r => if p.1 = a then (a, v) :: r else p :: put r a v
def del {β : Type} (m : List (α × β)) (a : α) : List (α × β) := match m with
  | [] => []
  | p :: r => if p.1 = a then r else p :: del r a

/-- An object that is a map of these keys and values. -/
def MapO (K : α → Value) (o : Obj) (m : List (α × Value)) : Prop :=
  ∃ es clock, o = .map es clock ∧ es.toList.map (fun e => (e.key, e.val)) = m.map (fun p => (K p.1, p.2)) ∧ (es.toList.map (·.born)).Nodup ∧ ∀ e ∈ es.toList, e.born < clock
theorem MapO.empty (K : α → Value) : MapO K (.map #[] 0) [] := ⟨#[], 0, rfl, rfl, List.nodup_nil, fun e he => by simp at he⟩

theorem find_run {kt : TypeId} {K : α → Value} (hK : Kinds P kt K) (a : α) (w : World) (l : List MapEntry) (m : List (α × Value)) (h : l.map (fun e => (e.key, e.val)) = m.map (fun p => (K p.1, p.2))) :
    ∃ r, (Instr.findKey kt (K a) l).run P w = .ok r w ∧ ((r = none ∧ look m a = none ∧ a ∉ m.map (·.1)) ∨ ∃ (i : Nat) (v : Value), r = some (i, v) ∧ look m a = some v ∧ i < l.length ∧ (∀ u, (put m a u).map (fun p => (K p.1, p.2)) = (l.map (fun e => (e.key, e.val))).set i (K a, u)) ∧ (del m a).map (fun p => (K p.1, p.2)) = (l.map (fun e => (e.key, e.val))).eraseIdx i ∧ (l[i]?).map (·.key) = some (K a)) := by
  obtain ⟨d, hd, h1, h2⟩ := hK.now
  have main : ∀ (l : List MapEntry) (m : List (α × Value)) (n : Nat), l.map (fun e => (e.key, e.val)) = m.map (fun p => (K p.1, p.2)) →
      (Instr.findNow d (K a) l n = some none ∧ look m a = none ∧ a ∉ m.map (·.1)) ∨ ∃ (i : Nat) (v : Value), Instr.findNow d (K a) l n = some (some (n + i, v)) ∧ look m a = some v ∧ i < l.length ∧ (∀ u, (put m a u).map (fun p => (K p.1, p.2)) = (l.map (fun e => (e.key, e.val))).set i (K a, u)) ∧ (del m a).map (fun p => (K p.1, p.2)) = (l.map (fun e => (e.key, e.val))).eraseIdx i ∧ (l[i]?).map (·.key) = some (K a) := by
    intro l
    induction l with
    | nil =>
      intro m n h
      cases m with
      | nil => exact .inl ⟨rfl, rfl, by simp⟩
      | cons p r => simp at h
    | cons e l ih =>
      intro m n h
      cases m with
      | nil => simp at h
      | cons p r =>
        simp only [List.map_cons, List.cons.injEq, Prod.mk.injEq] at h
        obtain ⟨⟨e1, e2⟩, h⟩ := h
        by_cases hp : p.1 = a
        · right
          refine ⟨0, e.val, ?_, ?_, by simp, fun u => ?_, ?_, ?_⟩
          · unfold Instr.findNow; rw [e1, hp, h1]; rfl
          · unfold look; rw [if_pos hp, e2]
          · unfold put; rw [if_pos hp]; simp [h]
          · unfold del; rw [if_pos hp]; simp [h]
          · simp [e1, hp]
        · have hs : Instr.sameNow d (K a) e.key = some false := by rw [e1]; exact h2 _ _ (fun x => hp x.symm)
          rcases ih r (n + 1) h with ⟨g1, g2, g3⟩ | ⟨i, v, g1, g2, g3, g4, g5, g6⟩
          · left
            refine ⟨?_, ?_, ?_⟩
            · unfold Instr.findNow; rw [hs]; exact g1
            · unfold look; rw [if_neg hp]; exact g2
            · simp only [List.map_cons, List.mem_cons, not_or]
              exact ⟨fun x => hp x.symm, g3⟩
          · right
            refine ⟨i + 1, v, ?_, ?_, by simp; omega, fun u => ?_, ?_, ?_⟩
            · unfold Instr.findNow; rw [hs]; show Instr.findNow d (K a) l (n + 1) = _; rw [g1]; congr 3; omega
            · unfold look; rw [if_neg hp]; exact g2
            · unfold put; rw [if_neg hp]; simp [g4 u, e1, e2]
            · unfold del; rw [if_neg hp]; simp [g5, e1, e2]
            · simpa using g6
  rcases main l m 0 h with ⟨g1, g2, g3⟩ | ⟨i, v, g1, g2, g3, g4, g5, g6⟩
  · exact ⟨none, run_findKey hd g1, .inl ⟨rfl, g2, g3⟩⟩
  · exact ⟨some (i, v), by rw [run_findKey hd g1, Nat.zero_add], .inr ⟨i, v, rfl, g2, g3, g4, g5, g6⟩⟩

variable {w : World} {b : Nat} {o : Obj} {mt kt et : TypeId} {K : α → Value} {m : List (α × Value)}
theorem MapO.lookup (hK : Kinds P kt K) (hm : P.underlying mt = some (.map kt et)) {z : Value} (hz : (zeroValue et).run P w = .ok z w) (h : MapO K o m) (hb : w.heap[b]? = some o) (a : α) (c : Bool) :
    (Instr.lookup mt (.map (some b)) (K a) c).run P w = .ok (if c then .tuple #[(look m a).getD z, .bool (look m a).isSome] else (look m a).getD z) w := by
  obtain ⟨es, clock, rfl, h1, _⟩ := h
  obtain ⟨r, hr, hc⟩ := find_run hK a w es.toList m h1
  unfold Instr.lookup
  simp only [Sem.run_bind, run_underlying hm, Result.andThen, MapKept.run_getObj_map hb, hK.check, hr]
  rcases hc with ⟨rfl, e1, _⟩ | ⟨i, v, rfl, e1, _⟩
  · rw [e1]
    cases c <;> simp [Sem.run_bind, hr, hz, Result.andThen]
  · rw [e1]
    cases c <;> simp [Sem.run_bind, hr, Result.andThen]
theorem MapO.update (hK : Kinds P kt K) (hm : P.underlying mt = some (.map kt et)) (h : MapO K o m) (hb : w.heap[b]? = some o) (a : α) (v : Value) :
    ∃ o', (Instr.mapUpdate mt (.map (some b)) (K a) v).run P w = .ok () (setBlock w b o') ∧ MapO K o' (put m a v) := by
  obtain ⟨es, clock, rfl, h1, h2, h3⟩ := h
  obtain ⟨r, hr, hc⟩ := find_run hK a w es.toList m h1
  unfold Instr.mapUpdate
  simp only [Sem.run_bind, run_underlying hm, Result.andThen, MapKept.run_getObj_map hb, hK.check, hr]
  rcases hc with ⟨rfl, e1, hn⟩ | ⟨i, v0, rfl, e1, hi, hp, _, hk⟩
  · refine ⟨.map (es.push { key := K a, val := v, born := clock }) (clock + 1), run_setObj_map _ hb, _, _, rfl, ?_, ?_, ?_⟩
    · have : ∀ (m : List (α × Value)), a ∉ m.map (·.1) → put m a v = m ++ [(a, v)] := by
        intro m
        induction m with
        | nil => intro _; rfl
        | cons p r ih =>
          intro hn
          simp only [List.map_cons, List.mem_cons, not_or] at hn
          unfold put
          rw [if_neg (fun e => hn.1 e.symm), ih hn.2]; rfl
      rw [this m hn]
      simp [h1]
    · simp only [Array.toList_push, List.map_append, List.map_cons, List.map_nil]
      refine List.nodup_append.2 ⟨h2, by simp, fun x hx y hy => ?_⟩
      rw [List.mem_singleton.1 hy]
      obtain ⟨e, he, rfl⟩ := List.mem_map.1 hx
      exact Nat.ne_of_lt (h3 e he)
    · intro e he
      simp only [Array.toList_push, List.mem_append, List.mem_singleton] at he
      rcases he with he | rfl
      · exact Nat.lt_succ_of_lt (h3 e he)
      · exact Nat.lt_succ_self _
  · have hk2 : ((es[i]?).map (·.key)).getD (K a) = K a := by
      rw [← Array.getElem?_toList, hk]; rfl
    simp only [hk2, Instr.keyThatStays, hK.stays, if_true, Sem.run_bind, Sem.run, Result.andThen]
    have hil : i < es.size := by simpa using hi
    have el : (es.modify i fun e => { e with key := K a, val := v }).toList = es.toList.set i { es[i] with key := K a, val := v } := by
      apply List.ext_getElem?
      intro j
      simp only [Array.getElem?_toList, Array.getElem?_modify, List.getElem?_set, Array.length_toList]
      by_cases hij : i = j
      · subst hij; simp [hil]
      · simp [hij]
    refine ⟨.map (es.modify i fun e => { e with key := K a, val := v }) clock, run_setObj_map _ hb, _, _, rfl, ?_, ?_, ?_⟩
    · rw [hp v, el, List.map_set]
    · rw [el, List.map_set]
      have : (es.toList.map (·.born)).set i es[i].born = es.toList.map (·.born) := by
        apply List.ext_getElem?
        intro j
        simp only [List.getElem?_set, List.length_map, Array.length_toList]
        by_cases hij : i = j
        · subst hij; simp [hil]
        · simp [hij]
      rw [this]; exact h2
    · intro e he
      rw [el] at he
      rcases List.mem_or_eq_of_mem_set he with he | rfl
      · exact h3 e he
      · exact h3 es[i] (by simp)
theorem MapO.delete (hK : Kinds P kt K) (hm : P.underlying mt = some (.map kt et)) (h : MapO K o m) (hb : w.heap[b]? = some o) (a : α) (ty : TypeId) :
    ∃ o', (Builtin.delete_ #[mt, kt] ty #[.map (some b), K a]).run P w = .ok (.tuple #[]) (setBlock w b o') ∧ MapO K o' (del m a) := by
  obtain ⟨es, clock, rfl, h1, h2, h3⟩ := h
  obtain ⟨r, hr, hc⟩ := find_run hK a w es.toList m h1
  unfold Builtin.delete_
  simp only [List.getElem?_toArray, List.getElem?_cons_zero, List.getElem?_cons_succ, Sem.run_bind, run_underlying hm, Result.andThen, MapKept.run_getObj_map hb, hK.check, hr]
  rcases hc with ⟨rfl, e1, hn⟩ | ⟨i, v0, rfl, e1, hi, _, hd, _⟩
  · refine ⟨.map es clock, by simp [Sem.run_bind, hr, run_setObj_map _ hb, Result.andThen, setBlock], es, clock, rfl, ?_, h2, h3⟩
    have : ∀ (m : List (α × Value)), a ∉ m.map (·.1) → del m a = m := by
      intro m
      induction m with
      | nil => intro _; rfl
      | cons p r ih =>
        intro hn
        simp only [List.map_cons, List.mem_cons, not_or] at hn
        unfold del
        rw [if_neg (fun e => hn.1 e.symm), ih hn.2]
    rw [this m hn]; exact h1
  · have hil : i < es.size := by simpa using hi
    have el : (es.eraseIdxIfInBounds i).toList = es.toList.eraseIdx i := by simp [Array.eraseIdxIfInBounds, hil]
    refine ⟨.map (es.eraseIdxIfInBounds i) clock, by simp [Sem.run_bind, hr, run_setObj_map _ hb, Result.andThen, setBlock], _, clock, rfl, ?_, ?_, ?_⟩
    · rw [hd, el, Go.ChangeMaps.map_eraseIdx]
    · rw [el, Go.ChangeMaps.map_eraseIdx]
      exact h2.sublist (List.eraseIdx_sublist _ _)
    · intro e he
      rw [el] at he
      exact h3 e ((List.eraseIdx_sublist _ _).subset he)
theorem MapO.length (hm : P.underlying mt = some (.map kt et)) (h : MapO K o m) (hb : w.heap[b]? = some o) (ty : TypeId) : (Builtin.len_ #[mt] ty #[.map (some b)]).run P w = .ok (goInt m.length) w := by
  obtain ⟨es, clock, rfl, h1, _⟩ := h
  have hl : es.size = m.length := by
    have := congrArg List.length h1
    simpa using this
  unfold Builtin.len_
  simp [Sem.run_bind, run_underlying hm, Result.andThen, MapKept.run_getObj_map hb, hl, Sem.run]
end
end Go.Proofs.Ytnjabanjgckeoaa
