/- Texts one behind the other, each in a section of its own: what calls make of memory, step by step. -/
import Derived.Test.YtdjoahhcmkedhaaGreatDoorPackTreeBad1
import Derived.Maps.RangeRun
import Derived.ChangeMaps5
import Derived.Deep.RegionHeld3
import Derived.StillTailTactics

/- Maps as lists of keys and values, in the order in which they came: look-up, store, delete, length. Of no program. -/
section
namespace Go.Proofs.YtdjoahhcmkedhaaGreatDoor
open Go.RowKit
open Go.ChangeMaps (setBlock)
open Go.MapKept (run_checkKey run_findKey run_setObj_map bytes_beq)
set_option linter.unusedSectionVars false
set_option linter.unusedVariables false
set_option linter.unusedSimpArgs false

section
variable {P : Program} {α : Type} [DecidableEq α]

/-- Keys of a kind: how the model compares them. -/
structure Kinds (P : Program) (kt : TypeId) (K : α → Value) : Prop where
  now : ∃ d, P.underlying kt = some d ∧ (∀ a, Instr.sameNow d (K a) (K a) = some true) ∧ ∀ a b, a ≠ b → Instr.sameNow d (K a) (K b) = some false
  check : ∀ empty a w, (Instr.checkKey empty 10000 kt (K a)).run P w = .ok () w
  stays : ∀ a, Instr.sameBits 10000 (K a) (K a) = true
theorem kinds_int {kt : TypeId} (h : P.underlying kt = some (.int .i64)) : Kinds P kt (fun i : Int => Value.int .i64 i) :=
  ⟨⟨_, h, fun a => by simp [Instr.sameNow], fun a b hab => by simp [Instr.sameNow, hab]⟩, fun empty a w => run_checkKey (k := Value.int .i64 a) h (show MapKept.IsKey (.int .i64) (.int .i64 a) from rfl) empty _, fun a => by simp [Instr.sameBits]⟩
theorem kinds_string {kt : TypeId} (h : P.underlying kt = some .string) : Kinds P kt (fun s : ByteArray => Value.string s) :=
  ⟨⟨_, h, fun a => by simp [Instr.sameNow, (bytes_beq a a).2 rfl], fun a b hab => by
    have : (a == b) = false := by
      cases hb : a == b with
      | false => rfl
      | true => exact absurd ((bytes_beq a b).1 hb) hab
    simp [Instr.sameNow, this]⟩, fun empty a w => run_checkKey (k := Value.string a) h (show MapKept.IsKey .string (.string a) from trivial) empty _, fun a => by simp [Instr.sameBits, (bytes_beq a a).2 rfl]⟩

/-- What a list of keys and values tells of a key; a value more; a key less. -/
def look {β : Type} (m : List (α × β)) (a : α) : Option β := match m with
  | [] => none
  | p :: r => if p.1 = a then some p.2 else look r a
def put {β : Type} (m : List (α × β)) (a : α) (v : β) : List (α × β) := match m with
  | [] => [(a, v)]
  | p :: r => if p.1 = a then (a, v) :: r else p :: put r a v
def del {β : Type} (m : List (α × β)) (a : α) : List (α × β) := match m with
  | [] => []
  | p :: r => if p.1 = a then r else p :: del r a

/-- An object that is a map of these keys and values. -/
def MapO (K : α → Value) (o : Obj) (m : List (α × Value)) : Prop :=
  ∃ es clock, o = .map es clock ∧ es.toList.map (fun e => (e.key, e.val)) = m.map (fun p => (K p.1, p.2)) ∧ (es.toList.map (·.born)).Nodup ∧ ∀ e ∈ es.toList, e.born < clock
theorem MapO.empty (K : α → Value) : MapO K (.map #[] 0) [] := ⟨#[], 0, rfl, rfl, List.nodup_nil, fun e he => by simp at he⟩

theorem find_run {kt : TypeId} {K : α → Value} (hK : Kinds P kt K) (a : α) (w : World) (l : List MapEntry) (m : List (α × Value)) (h : l.map (fun e => (e.key, e.val)) = m.map (fun p => (K p.1, p.2))) :
    ∃ r, (Instr.findKey kt (K a) l).run P w = .ok r w ∧ ((r = none ∧ look m a = none ∧ a ∉ m.map (·.1)) ∨ ∃ (i : Nat) (v : Value), r = some (i, v) ∧ look m a = some v ∧ i < l.length ∧ (∀ u, (put m a u).map (fun p => (K p.1, p.2)) = (l.map (fun e => (e.key, e.val))).set i (K a, u)) ∧ (del m a).map (fun p => (K p.1, p.2)) = (l.map (fun e => (e.key, e.val))).eraseIdx i ∧ (l[i]?).map (·.key) = some (K a)) := by
  obtain ⟨d, hd, h1, h2⟩ := hK.now
  have main : ∀ (l : List MapEntry) (m : List (α × Value)) (n : Nat), l.map (fun e => (e.key, e.val)) = m.map (fun p => (K p.1, p.2)) →
      (Instr.findNow d (K a) l n = some none ∧ look m a = none ∧ a ∉ m.map (·.1)) ∨ ∃ (i : Nat) (v : Value), Instr.findNow d (K a) l n = some (some (n + i, v)) ∧ look m a = some v ∧ i < l.length ∧ (∀ u, (put m a u).map (fun p => (K p.1, p.2)) = (l.map (fun e => (e.key, e.val))).set i (K a, u)) ∧ (del m a).map (fun p => (K p.1, p.2)) = (l.map (fun e => (e.key, e.val))).eraseIdx i ∧ (l[i]?).map (·.key) = some (K a) := by
    intro l
    induction l with
    | nil =>
      intro m n h
      cases m with
      | nil => exact .inl ⟨rfl, rfl, by simp⟩
      | cons p r => simp at h
    | cons e l ih =>
      intro m n h
      cases m with
      | nil => simp at h
      | cons p r =>
        simp only [List.map_cons, List.cons.injEq, Prod.mk.injEq] at h
        obtain ⟨⟨e1, e2⟩, h⟩ := h
        by_cases hp : p.1 = a
        · right
          refine ⟨0, e.val, ?_, ?_, by simp, fun u => ?_, ?_, ?_⟩
          · unfold Instr.findNow; rw [e1, hp, h1]; rfl
          · unfold look; rw [if_pos hp, e2]
          · unfold put; rw [if_pos hp]; simp [h]
          · unfold del; rw [if_pos hp]; simp [h]
          · simp [e1, hp]
        · have hs : Instr.sameNow d (K a) e.key = some false := by rw [e1]; exact h2 _ _ (fun x => hp x.symm)
          rcases ih r (n + 1) h with ⟨g1, g2, g3⟩ | ⟨i, v, g1, g2, g3, g4, g5, g6⟩
          · left
            refine ⟨?_, ?_, ?_⟩
            · unfold Instr.findNow; rw [hs]; exact g1
            · unfold look; rw [if_neg hp]; exact g2
            · simp only [List.map_cons, List.mem_cons, not_or]
              exact ⟨fun x => hp x.symm, g3⟩
          · right
            refine ⟨i + 1, v, ?_, ?_, by simp; omega, fun u => ?_, ?_, ?_⟩
            · unfold Instr.findNow; rw [hs]; show Instr.findNow d (K a) l (n + 1) = _; rw [g1]; congr 3; omega
            · unfold look; rw [if_neg hp]; exact g2
            · unfold put; rw [if_neg hp]; simp [g4 u, e1, e2]
            · unfold del; rw [if_neg hp]; simp [g5, e1, e2]
            · simpa using g6
  rcases main l m 0 h with ⟨g1, g2, g3⟩ | ⟨i, v, g1, g2, g3, g4, g5, g6⟩
  · exact ⟨none, run_findKey hd g1, .inl ⟨rfl, g2, g3⟩⟩
  · exact ⟨some (i, v), by rw [run_findKey hd g1, Nat.zero_add], .inr ⟨i, v, rfl, g2, g3, g4, g5, g6⟩⟩

variable {w : World} {b : Nat} {o : Obj} {mt kt et : TypeId} {K : α → Value} {m : List (α × Value)}
theorem MapO.lookup (hK : Kinds P kt K) (hm : P.underlying mt = some (.map kt et)) {z : Value} (hz : (zeroValue et).run P w = .ok z w) (h : MapO K o m) (hb : w.heap[b]? = some o) (a : α) (c : Bool) :
    (Instr.lookup mt (.map (some b)) (K a) c).run P w = .ok (if c then .tuple #[(look m a).getD z, .bool (look m a).isSome] else (look m a).getD z) w := by
  obtain ⟨es, clock, rfl, h1, _⟩ := h
  obtain ⟨r, hr, hc⟩ := find_run hK a w es.toList m h1
  unfold Instr.lookup
  simp only [Sem.run_bind, run_underlying hm, Result.andThen, MapKept.run_getObj_map hb, hK.check, hr]
  rcases hc with ⟨rfl, e1, _⟩ | ⟨i, v, rfl, e1, _⟩
  · rw [e1]
    cases c <;> simp [Sem.run_bind, hr, hz, Result.andThen]
  · rw [e1]
    cases c <;> simp [Sem.run_bind, hr, Result.andThen]
theorem MapO.update (hK : Kinds P kt K) (hm : P.underlying mt = some (.map kt et)) (h : MapO K o m) (hb : w.heap[b]? = some o) (a : α) (v : Value) :
    ∃ o', (Instr.mapUpdate mt (.map (some b)) (K a) v).run P w = .ok () (setBlock w b o') ∧ MapO K o' (put m a v) := by
  obtain ⟨es, clock, rfl, h1, h2, h3⟩ := h
  obtain ⟨r, hr, hc⟩ := find_run hK a w es.toList m h1
  unfold Instr.mapUpdate
  simp only [Sem.run_bind, run_underlying hm, Result.andThen, MapKept.run_getObj_map hb, hK.check, hr]
  rcases hc with ⟨rfl, e1, hn⟩ | ⟨i, v0, rfl, e1, hi, hp, _, hk⟩
  · refine ⟨.map (es.push { key := K a, val := v, born := clock }) (clock + 1), run_setObj_map _ hb, _, _, rfl, ?_, ?_, ?_⟩
    · have : ∀ (m : List (α × Value)), a ∉ m.map (·.1) → put m a v = m ++ [(a, v)] := by
        intro m
        induction m with
        | nil => intro _; rfl
        | cons p r ih =>
          intro hn
          simp only [List.map_cons, List.mem_cons, not_or] at hn
          unfold put
          rw [if_neg (fun e => hn.1 e.symm), ih hn.2]; rfl
      rw [this m hn]
      simp [h1]
    · simp only [Array.toList_push, List.map_append, List.map_cons, List.map_nil]
      refine List.nodup_append.2 ⟨h2, by simp, fun x hx y hy => ?_⟩
      rw [List.mem_singleton.1 hy]
      obtain ⟨e, he, rfl⟩ := List.mem_map.1 hx
      exact Nat.ne_of_lt (h3 e he)
    · intro e he
      simp only [Array.toList_push, List.mem_append, List.mem_singleton] at he
      rcases he with he | rfl
      · exact Nat.lt_succ_of_lt (h3 e he)
      · exact Nat.lt_succ_self _
  · have hk2 : ((es[i]?).map (·.key)).getD (K a) = K a := by
      rw [← Array.getElem?_toList, hk]; rfl
    simp only [hk2, Instr.keyThatStays, hK.stays, if_true, Sem.run_bind, Sem.run, Result.andThen]
    have hil : i < es.size := by simpa using hi
    have el : (es.modify i fun e => { e with key := K a, val := v }).toList = es.toList.set i { es[i] with key := K a, val := v } := by
      apply List.ext_getElem?
      intro j
      simp only [Array.getElem?_toList, Array.getElem?_modify, List.getElem?_set, Array.length_toList]
      by_cases hij : i = j
      · subst hij; simp [hil]
      · simp [hij]
    refine ⟨.map (es.modify i fun e => { e with key := K a, val := v }) clock, run_setObj_map _ hb, _, _, rfl, ?_, ?_, ?_⟩
    · rw [hp v, el, List.map_set]
    · rw [el, List.map_set]
      have : (es.toList.map (·.born)).set i es[i].born = es.toList.map (·.born) := by
        apply List.ext_getElem?
        intro j
        simp only [List.getElem?_set, List.length_map, Array.length_toList]
        by_cases hij : i = j
        · subst hij; simp [hil]
        · simp [hij]
      rw [this]; exact h2
    · intro e he
      rw [el] at he
      rcases List.mem_or_eq_of_mem_set he with he | rfl
      · exact h3 e he
      · exact h3 es[i] (by simp)
theorem MapO.delete (hK : Kinds P kt K) (hm : P.underlying mt = some (.map kt et)) (h : MapO K o m) (hb : w.heap[b]? = some o) (a : α) (ty : TypeId) :
    ∃ o', (Builtin.delete_ #[mt, kt] ty #[.map (some b), K a]).run P w = .ok (.tuple #[]) (setBlock w b o') ∧ MapO K o' (del m a) := by
  obtain ⟨es, clock, rfl, h1, h2, h3⟩ := h
  obtain ⟨r, hr, hc⟩ := find_run hK a w es.toList m h1
  unfold Builtin.delete_
  simp only [List.getElem?_toArray, List.getElem?_cons_zero, List.getElem?_cons_succ, Sem.run_bind, run_underlying hm, Result.andThen, MapKept.run_getObj_map hb, hK.check, hr]
  rcases hc with ⟨rfl, e1, hn⟩ | ⟨i, v0, rfl, e1, hi, _, hd, _⟩
  · refine ⟨.map es clock, by simp [Sem.run_bind, hr, run_setObj_map _ hb, Result.andThen, setBlock], es, clock, rfl, ?_, h2, h3⟩
    have : ∀ (m : List (α × Value)), a ∉ m.map (·.1) → del m a = m := by
      intro m
      induction m with
      | nil => intro _; rfl
      | cons p r ih =>
        intro hn
        simp only [List.map_cons, List.mem_cons, not_or] at hn
        unfold del
        rw [if_neg (fun e => hn.1 e.symm), ih hn.2]
    rw [this m hn]; exact h1
  · have hil : i < es.size := by simpa using hi
    have el : (es.eraseIdxIfInBounds i).toList = es.toList.eraseIdx i := by simp [Array.eraseIdxIfInBounds, hil]
    refine ⟨.map (es.eraseIdxIfInBounds i) clock, by simp [Sem.run_bind, hr, run_setObj_map _ hb, Result.andThen, setBlock], _, clock, rfl, ?_, ?_, ?_⟩
    · rw [hd, el, Go.ChangeMaps.map_eraseIdx]
    · rw [el, Go.ChangeMaps.map_eraseIdx]
      exact h2.sublist (List.eraseIdx_sublist _ _)
    · intro e he
      rw [el] at he
      exact h3 e ((List.eraseIdx_sublist _ _).subset he)
theorem MapO.length (hm : P.underlying mt = some (.map kt et)) (h : MapO K o m) (hb : w.heap[b]? = some o) (ty : TypeId) : (Builtin.len_ #[mt] ty #[.map (some b)]).run P w = .ok (goInt m.length) w := by
  obtain ⟨es, clock, rfl, h1, _⟩ := h
  have hl : es.size = m.length := by
    have := congrArg List.length h1
    simpa using this
  unfold Builtin.len_
  simp [Sem.run_bind, run_underlying hm, Result.andThen, MapKept.run_getObj_map hb, hl, Sem.run]
end
end Go.Proofs.YtdjoahhcmkedhaaGreatDoor
end

/- Blocks that the law has made, each as it is: what a store into one, a new one, and a map's iterator make of them. Of no program. -/
section
namespace Go.Proofs.YtdjoahhcmkedhaaGreatDoor
open Go.RowKit
open Go.ChangeMaps (setBlock)
set_option linter.unusedVariables false
set_option linter.unusedSimpArgs false
set_option linter.unusedSectionVars false

abbrev Blocks := List (Nat × Obj)
def upd (S : Blocks) (b : Nat) (o : Obj) : Blocks := S.map fun m => if m.1 = b then (b, o) else m
theorem upd_keys (S : Blocks) (b : Nat) (o : Obj) : (upd S b o).map (·.1) = S.map (·.1) := by
  unfold upd
  rw [List.map_map]
  apply List.map_congr_left
  intro m _
  simp only [Function.comp]
  split
  · rename_i h; exact h.symm
  · rfl
theorem upd_same {S : Blocks} {b : Nat} {o : Obj} (h : (b, o) ∈ S) (o' : Obj) : (b, o') ∈ upd S b o' := by
  unfold upd
  exact List.mem_map.2 ⟨(b, o), h, by simp⟩
theorem upd_other {S : Blocks} {b c : Nat} {x : Obj} (h : (c, x) ∈ S) (hc : c ≠ b) (o' : Obj) : (c, x) ∈ upd S b o' := by
  unfold upd
  exact List.mem_map.2 ⟨(c, x), h, by simp [hc]⟩
theorem setBlock_heap (w : World) (b : Nat) (o : Obj) (hb : b < w.heap.size) : (setBlock w b o).heap[b]? = some o ∧ (∀ c, c ≠ b → (setBlock w b o).heap[c]? = w.heap[c]?) ∧ (setBlock w b o).heap.size = w.heap.size := by
  refine ⟨by simp [setBlock, hb], fun c hc => by simp [setBlock, Ne.symm hc], by simp [setBlock]⟩
theorem grown_setBlock (w : World) (b : Nat) (o : Obj) : w.grownBy (setBlock w b o) (some b) :=
  ⟨rfl, rfl, rfl, by simp [setBlock], fun c _ hne => by
    have hbc : b ≠ c := fun e => hne (by rw [e])
    simp [setBlock, hbc]⟩

section
variable {w0 w : World} {S : Blocks} {L : List Rw} {b : Nat} {o : Obj}
theorem Own.at (h : Own ⟨w0, S⟩ w L) (hb : (b, o) ∈ S) : w.heap[b]? = some o := (h.maps _ hb).2
theorem Own.atLt (h : Own ⟨w0, S⟩ w L) (hb : (b, o) ∈ S) : w0.heap.size ≤ b ∧ b < w.heap.size := ⟨(h.maps _ hb).1, lt_of_heap (h.maps _ hb).2⟩
theorem Own.uniq (h : Own ⟨w0, S⟩ w L) {o' : Obj} (hb : (b, o) ∈ S) (hb' : (b, o') ∈ S) : o = o' := Option.some.inj ((h.at hb).symm.trans (h.at hb'))
theorem Own.setB (h : Own ⟨w0, S⟩ w L) (hb : (b, o) ∈ S) (o' : Obj) : Own ⟨w0, upd S b o'⟩ (setBlock w b o') L := by
  have hlt := (h.atLt hb).2
  obtain ⟨s1, s2, s3⟩ := setBlock_heap w b o' hlt
  have hg := grown_setBlock w b o'
  refine ⟨h.below.grown hg h.size (fun k hk => by cases hk; exact (h.maps _ hb).1), fun p hp => ?_, h.apart, fun m hm => ?_, fun m hm p hp => ?_⟩
  · refine (h.rows p hp).kept hg ?_
    by_cases hpn : p.v.ownBlock = none
    · exact .inl hpn
    · exact .inr (h.offmaps _ hb p hp)
  · obtain ⟨m1, hm1, rfl⟩ := List.mem_map.1 hm
    split
    · exact ⟨(h.maps _ hb).1, s1⟩
    · rename_i hne
      exact ⟨(h.maps m1 hm1).1, (s2 _ hne).trans (h.maps m1 hm1).2⟩
  · obtain ⟨m1, hm1, rfl⟩ := List.mem_map.1 hm
    split
    · exact h.offmaps _ hb p hp
    · exact h.offmaps m1 hm1 p hp
theorem Own.newB (h : Own ⟨w0, S⟩ w L) (o : Obj) : Own ⟨w0, (w.heap.size, o) :: S⟩ (w.alloc o) L := by
  have h1 := h.alloc o
  refine ⟨h1.below, h1.rows, h1.apart, fun m hm => ?_, fun m hm p hp => ?_⟩
  · rcases List.mem_cons.1 hm with rfl | hm
    · exact ⟨h.size, (MapKept.heap_alloc w _).1⟩
    · exact h1.maps m hm
  · rcases List.mem_cons.1 hm with rfl | hm
    · intro e
      have := (h.lt hp e).2
      exact absurd this (Nat.lt_irrefl _)
    · exact h1.offmaps m hm p hp
theorem Own.forget {S' : Blocks} (h : Own ⟨w0, S⟩ w L) (hs : ∀ m ∈ S', m ∈ S) : Own ⟨w0, S'⟩ w L :=
  ⟨h.below, h.rows, h.apart, fun m hm => h.maps m (hs m hm), fun m hm => h.offmaps m (hs m hm)⟩
theorem Own.cellB {c : Array Value} {T : TypeId} (h : Own ⟨w0, S⟩ w L) (hb : (b, .cells c T) ∈ S) (j : Nat) : w.cell? ⟨b, j, none⟩ = c[j]? := by
  have := h.at hb
  unfold World.cell?
  rw [this]; rfl
theorem cell_at {w : World} {c : Array Value} {T : TypeId} (h : w.heap[b]? = some (.cells c T)) (j : Nat) : w.cell? ⟨b, j, none⟩ = c[j]? := by
  unfold World.cell?
  rw [h]; rfl
theorem free_at {w : World} {c : Array Value} {T : TypeId} (h : w.heap[b]? = some (.cells c T)) (j : Nat) : w.frozen? ⟨b, j, none⟩ = false := by
  unfold World.frozen?
  rw [h]
  simp
theorem set_at {w : World} {c : Array Value} {T : TypeId} (h : w.heap[b]? = some (.cells c T)) (j : Nat) (v : Value) : w.setCell ⟨b, j, none⟩ v = setBlock w b (.cells (c.setIfInBounds j v) T) := by
  unfold World.setCell
  have hlt := lt_of_heap h
  simp only [setBlock, World.mk.injEq, true_and, and_true]
  apply Array.ext_getElem?
  intro i
  rw [Array.getElem?_modify, Array.getElem?_setIfInBounds]
  by_cases hi : b = i
  · subst hi
    rw [if_pos rfl, if_pos rfl, if_pos hlt, h]; rfl
  · rw [if_neg hi, if_neg hi]
theorem Own.storeB {c : Array Value} {T : TypeId} (h : Own ⟨w0, S⟩ w L) (hb : (b, .cells c T) ∈ S) (j : Nat) (v : Value) : Own ⟨w0, upd S b (.cells (c.setIfInBounds j v) T)⟩ (w.setCell ⟨b, j, none⟩ v) L := by
  rw [set_at (h.at hb)]
  exact h.setB hb _
end

/-! ### A map that is gone through -/
section
variable {P : Program} {α : Type} [DecidableEq α] {K : α → Value}
/-- The iterator 'oi' over the map 'o' at block b; these are still to come. -/
def IterO (K : α → Value) (oi : Obj) (b : Nat) (o : Obj) (m left : List (α × Value)) : Prop :=
  ∃ es clock since seen c0, o = .map es clock ∧ oi = .mapIter (some b) since seen c0 ∧ es.toList.map (fun e => (e.key, e.val)) = m.map (fun p => (K p.1, p.2)) ∧ (es.toList.map (·.born)).Nodup ∧ (∀ e ∈ es.toList, e.born < clock) ∧
    (∀ e ∈ es.toList, e.born < since) ∧ since ≤ c0 ∧ since ≤ clock ∧ (leftOf es seen).toList.map (fun e => (e.key, e.val)) = left.map (fun p => (K p.1, p.2))
theorem MapO.range {w : World} {b : Nat} {o : Obj} {mt kt et : TypeId} {m : List (α × Value)} (hm : P.underlying mt = some (.map kt et)) (h : MapO K o m) (hb : w.heap[b]? = some o) :
    ∃ oi, (Instr.range mt (.map (some b))).run P w = .ok (.pointer (some ⟨w.heap.size, 0, none⟩)) (w.alloc oi) ∧ IterO K oi b o m m := by
  obtain ⟨es, clock, rfl, h1, h2, h3⟩ := h
  refine ⟨.mapIter (some b) clock #[] clock, run_range_map w mt kt et b es clock hm hb, es, clock, clock, #[], clock, rfl, rfl, h1, h2, h3, h3, Nat.le_refl _, Nat.le_refl _, ?_⟩
  have : leftOf es #[] = es := by simp [leftOf]
  rw [this]; exact h1
theorem map_split {β γ : Type} (f : β → γ) (l : List β) (x : List γ) (y : γ) (z : List γ) (h : l.map f = x ++ y :: z) : ∃ a p c, l = a ++ p :: c ∧ a.map f = x ∧ f p = y ∧ c.map f = z := by
  obtain ⟨a, r, e1, e2, e3⟩ := List.map_eq_append_iff.1 h
  cases r with
  | nil => simp at e3
  | cons p c =>
    simp only [List.map_cons, List.cons.injEq] at e3
    exact ⟨a, p, c, e1, e2, e3.1, e3.2⟩
theorem IterO.next {w : World} {b r : Nat} {o oi : Obj} {m left : List (α × Value)} (ty : TypeId) (h : IterO K oi b o m left) (hr : w.heap[r]? = some oi) (hb : w.heap[b]? = some o) :
    (left = [] ∧ (Instr.next (.pointer (some ⟨r, 0, none⟩)) false ty).run P w = .ok (.tuple #[.bool false]) w) ∨
    ∃ l1 p l2 w1 oi', left = l1 ++ p :: l2 ∧ (w1 = w ∨ w1 = w.drew) ∧ (Instr.next (.pointer (some ⟨r, 0, none⟩)) false ty).run P w = .ok (.tuple #[.bool true, K p.1, p.2]) (setBlock w1 r oi') ∧ IterO K oi' b o m (l1 ++ l2) ∧
      (∀ u : World, u.heap[r]? = some oi' → u.heap[b]? = some o → (Instr.entry (.pointer (some ⟨r, 0, none⟩))).run P u = .ok (.tuple #[K p.1, p.2]) u) := by
  obtain ⟨es, clock, since, seen, c0, rfl, rfl, h1, h2, h3, h4, h5, h6, h7⟩ := h
  rcases run_next_at (P := P) w ty r b since c0 seen es clock hr hb h4 h5 with ⟨g1, g2⟩ | ⟨e, he, w1, hw1, g2⟩
  · left
    refine ⟨?_, g2⟩
    have : (leftOf es seen).toList = [] := by
      apply List.eq_nil_of_length_eq_zero; simpa using g1
    rw [this] at h7
    exact List.map_eq_nil_iff.1 h7.symm
  · right
    obtain ⟨x, z, hxz⟩ := List.append_of_mem he
    rw [hxz, List.map_append, List.map_cons] at h7
    obtain ⟨a, p, c, e1, e2, e3, e4⟩ := map_split _ left _ _ _ h7.symm
    have e5 : e.key = K p.1 ∧ e.val = p.2 := by
      have := e3
      simp only [Prod.mk.injEq] at this
      exact ⟨this.1.symm, this.2.symm⟩
    have hmem : e ∈ es.toList := by
      have : e ∈ leftOf es seen := by simpa using he
      unfold leftOf at this
      simp at this ⊢
      exact this.1
    have hnd : ∀ y ∈ (x ++ z), y.born ≠ e.born := by
      have hsub : (leftOf es seen).toList.Sublist es.toList := by unfold leftOf; simp
      have hn := h2.sublist (hsub.map (·.born))
      rw [hxz, List.map_append, List.map_cons] at hn
      intro y hy e6
      have hn' := (List.perm_middle.nodup_iff).1 hn
      rw [List.nodup_cons, ← List.map_append] at hn'
      exact hn'.1 (List.mem_map.2 ⟨y, hy, e6⟩)
    have hl : (leftOf es (seen.push e.born)).toList = x ++ z := by
      have : leftOf es (seen.push e.born) = (leftOf es seen).filter fun y => !(y.born == e.born) := by
        unfold leftOf
        rw [Array.filter_filter]
        congr 1
        funext y
        simp only [Array.contains_push, Bool.not_or]
        cases h9 : (y.born == e.born) <;> cases h10 : seen.contains y.born <;> simp_all
        all_goals (try (have := h9; simp [eq_comm] at this ⊢; exact this))
      rw [this, Array.toList_filter, hxz, List.filter_append, List.filter_cons]
      have f1 : x.filter (fun y => !(y.born == e.born)) = x := List.filter_eq_self.2 fun y hy => by simp [hnd y (List.mem_append_left _ hy)]
      have f2 : z.filter (fun y => !(y.born == e.born)) = z := List.filter_eq_self.2 fun y hy => by simp [hnd y (List.mem_append_right _ hy)]
      rw [f1, f2]; simp
    refine ⟨a, p, c, w1, .mapIter (some b) since (seen.push e.born) clock, e1, hw1, by rw [g2, e5.1, e5.2], ⟨es, clock, since, _, clock, rfl, rfl, h1, h2, h3, h4, h6, h6, ?_⟩, fun u hu hub => ?_⟩
    · rw [hl, List.map_append, List.map_append, e2, e4]
    · rw [run_entry_at (P := P) u r b since seen es clock e hu hub hmem h2, e5.1, e5.2]
end
end Go.Proofs.YtdjoahhcmkedhaaGreatDoor
end

/- 'Join', 'Right', 'Parent' of package path. -/
section
namespace Go.Proofs.YtdjoahhcmkedhaaGreatDoor
open Go.RowKit
set_option linter.unusedVariables false
set_option linter.unusedSimpArgs false

/-- A slice value that reads as these texts. -/
def Sts (w : World) (v : Value) (ls : List (List UInt8)) : Prop :=
  ∃ a c, v = .slice a ls.length c ∧ ls.length ≤ c ∧ c ≤ maxLen ∧ (0 < ls.length → ∃ b o, a = some ⟨b, o, none⟩ ∧ b < w.heap.size ∧ ∀ (j : Nat) (h : j < ls.length), w.cell? ⟨b, o + j, none⟩ = some (.string (toB ls[j])))
theorem Sts.later {w w' : World} {v : Value} {ls : List (List UInt8)} (h : Sts w v ls) (hb : Below w.heap.size w w') : Sts w' v ls := by
  obtain ⟨a, c, h1, h2, h3, h4⟩ := h
  refine ⟨a, c, h1, h2, h3, fun hn => ?_⟩
  obtain ⟨b, o, h5, h6, h7⟩ := h4 hn
  exact ⟨b, o, h5, Nat.lt_of_lt_of_le h6 hb.size, fun j hj => by rw [hb.cell (p := ⟨b, o + j, none⟩) h6]; exact h7 j hj⟩
theorem Own.sts {W0 : Base} {w : World} {v : Value} {ls : List (List UInt8)} {L : List Rw} (h : Own W0 w (rowS v ls :: L)) : Sts w v ls := by
  by_cases hn : 0 < ls.length
  · obtain ⟨g, cap, h1, h2, h3⟩ := h.form hn
    obtain ⟨a, c, h4, h5, h6⟩ := h.sized
    rw [h1] at h4
    injection h4 with e1 e2 e3
    subst h1
    refine ⟨_, cap, rfl, by omega, by omega, fun _ => ⟨g, 0, rfl, by omega, fun j hj => ?_⟩⟩
    rw [Nat.zero_add]; exact h.str j hj
  · obtain ⟨a, c, h4, h5, h6⟩ := h.sized
    exact ⟨a, c, h4, h5, h6, fun h => absurd h hn⟩
theorem Sts.take {w : World} {a : Option Addr} {n c : Nat} {ls : List (List UInt8)} (h : Sts w (.slice a n c) ls) (k : Nat) (hk : k ≤ ls.length) : Sts w (.slice a k c) (ls.take k) := by
  obtain ⟨a', c', h1, h2, h3, h4⟩ := h
  injection h1 with e1 e2 e3
  subst e1 e3
  have hl : (ls.take k).length = k := by rw [List.length_take]; omega
  refine ⟨a, c, by rw [hl], by omega, h3, fun hn => ?_⟩
  obtain ⟨b, o, h5, h6, h7⟩ := h4 (by omega)
  refine ⟨b, o, h5, h6, fun j hj => ?_⟩
  rw [h7 j (by omega), List.getElem_take]

/-- The path of names. -/
def joinL (ls : List (List UInt8)) : List UInt8 := 47 :: Lib.join ls [47]
theorem join_len (ls : List (List UInt8)) (m : Nat) (h : ∀ l ∈ ls, l.length ≤ m) : (Lib.join ls [47]).length ≤ ls.length * (m + 1) := by
  cases ls with
  | nil => simp [Lib.join_nil]
  | cons x r =>
    rw [Lib.join_cons]
    have h1 := h x (List.mem_cons_self ..)
    have h2 : (Lib.joinTail [47] r).length ≤ r.length * (m + 1) := by
      have hr : ∀ l ∈ r, l.length ≤ m := fun l hl => h l (List.mem_cons_of_mem _ hl)
      clear h h1
      induction r with
      | nil => simp [Lib.joinTail]
      | cons y r ih =>
        have := ih (fun l hl => hr l (List.mem_cons_of_mem _ hl))
        have hy := hr y (List.mem_cons_self ..)
        simp only [Lib.joinTail, List.map_cons, List.flatten_cons, List.length_append, List.length_singleton] at this ⊢
        rw [List.length_cons, Nat.add_mul]; omega
    rw [List.length_append, List.length_cons, Nat.add_mul]; omega
theorem join_size (ls : List (List UInt8)) (m : Nat) (h : ∀ l ∈ ls, l.length ≤ m) (hm : m ≤ 1000) (hn : ls.length ≤ 1000) : (Lib.join ls [47]).length ≤ 1001000 := by
  have h1 := join_len ls m h
  have h2 : ls.length * (m + 1) ≤ 1000 * 1001 := Nat.mul_le_mul hn (by omega)
  omega
theorem strings_join (v : Value) (ls : List (List UInt8)) (w : World) (h : Sts w v ls) (hs : (Lib.join ls [47]).length ≤ 1001000) (hn : ls.length ≤ 1000) :
    Calls Tryz.prog 131 #[v, .string ⟨#[47]⟩] w fun e w' => e = .returned (.string (toB (Lib.join ls [47]))) ∧ Below w.heap.size w w' := by
  obtain ⟨a, c, h1, h2, h3, h4⟩ := h
  subst h1
  cases ls with
  | nil =>
    refine (Tryz.strings_Join_none a c ⟨#[47]⟩ w).mono ?_
    rintro e w' ⟨rfl, rfl⟩
    exact ⟨rfl, Below.refl _ _⟩
  | cons x r =>
    obtain ⟨b, o, h5, h6, h7⟩ := h4 (by simp)
    subst h5
    have hm : ((x :: r).map toB).map (·.data.toList) = x :: r := by
      rw [List.map_map]; exact List.map_id' _
    have hc := Tryz.strings_Join b o c ((x :: r).map toB) ⟨#[47]⟩ w (fun j y hj => by
      rw [List.getElem?_map] at hj
      obtain ⟨z, hz, rfl⟩ := Option.map_eq_some_iff.1 hj
      obtain ⟨hj2, rfl⟩ := List.getElem?_eq_some_iff.1 hz
      exact h7 j hj2) h6 (by rw [List.length_map]; omega) (by rw [List.length_map]; exact h2) (by rw [hm]; show (Lib.join (x :: r) [47]).length ≤ _; omega)
    rw [List.length_map, hm] at hc
    exact hc
theorem join_any (v : Value) (ls : List (List UInt8)) (w : World) (h : Sts w v ls) (hs : (Lib.join ls [47]).length ≤ 1001000) (hn : ls.length ≤ 1000) :
    Calls Tryz.prog 111 #[v] w fun e w' => e = .returned (.string (toB (joinL ls))) ∧ Below w.heap.size w w' := by
  have hj := strings_join v ls w h hs hn
  have HE := Lib.hid (show (⟨#[47]⟩ : ByteArray) ++ toB (Lib.join ls [47]) = toB (joinL ls) from by
    apply ByteArray.ext; simp [joinL])
  obtain ⟨a, c, h1, h2, h3, h4⟩ := h
  subst h1
  clear h4 h2 h3
  generalize hX : Lib.join ls [47] = X at *
  clear hX
  go_enter Tryz.func111, Tryz.ntmps111
  go_wp2_with (go_at_call 131; refine hj.mono ?_; rintro e w' ⟨rfl, hb⟩)
  go_ret
  exact ⟨by rw [HE.out]; rfl, hb⟩

theorem names_bounds (l : List UInt8) : (namesL l).length ≤ 5 ∧ ∀ n ∈ namesL l, nameL n = true := by
  unfold namesL
  split
  · simp
  · rename_i h1
    split
    · rename_i h2
      unfold okP at h2
      rw [decide_eq_false h1] at h2
      simp only [Bool.false_or, Bool.and_eq_true, decide_eq_true_eq, List.all_eq_true] at h2
      exact ⟨h2.1.2, h2.2⟩
    · simp
theorem name_len {n : List UInt8} (h : nameL n = true) : 1 ≤ n.length ∧ n.length ≤ 12 := by
  unfold nameL at h
  simp only [Bool.and_eq_true, decide_eq_true_eq] at h
  exact ⟨h.1.1, h.1.2.1⟩
theorem parent_no (s : ByteArray) (w : World) (hs : s.size ≤ maxLen) (hm : Mx w) (h0 : namesL s.data.toList = []) : Calls Tryz.prog 87 #[.string s] w fun e w' => e = .returned (.tuple #[.string ⟨#[]⟩, .string ⟨#[]⟩, .bool false]) ∧ Below w.heap.size w w' := by
  have hc := split_any s w hs hm
  generalize s.data.toList = l at *
  have H0 := Lib.hid h0
  clear h0
  go_enter Tryz.func87, Tryz.ntmps87
  go_wp2_with fail
  refine hc.mono ?_
  rintro e w' ⟨v, rfl, hO⟩
  obtain ⟨a, c, rfl, _, _⟩ := hO.sized
  rw [H0.out]
  have hb := hO.below
  clear hO
  go_wp2
  exact bodyPost_ret (v := .tuple #[.string ⟨#[]⟩, .string ⟨#[]⟩, .bool false]) (by simp [results, Tryz.results87, go_sem]) rfl ⟨rfl, hb⟩
theorem parent_yes (s : ByteArray) (w : World) (hs : s.size ≤ maxLen) (hm : Mx w) (ini : List (List UInt8)) (z : List UInt8) (h0 : namesL s.data.toList = ini ++ [z]) : Calls Tryz.prog 87 #[.string s] w fun e w' => e = .returned (.tuple #[.string (toB (joinL ini)), .string (toB z), .bool true]) ∧ Below w.heap.size w w' := by
  have hc := split_any s w hs hm
  generalize s.data.toList = l at *
  obtain ⟨h5, h6⟩ := names_bounds l
  rw [h0] at h5 h6
  rw [List.length_append, List.length_singleton] at h5
  have hj := join_size ini 12 (fun n hn => (name_len (h6 n (List.mem_append_left _ hn))).2) (by omega) (by omega)
  have H0 := Lib.hid h0
  have HLN := Lib.hid (show (ini ++ [z]).length = ini.length + 1 by simp)
  clear h0 h6
  go_enter Tryz.func87, Tryz.ntmps87
  go_wp2_with fail
  refine hc.mono ?_
  rintro e w1 ⟨v, rfl, hO⟩
  rw [H0.out] at hO
  obtain ⟨g, cap, hv, _, _⟩ := hO.form (by rw [HLN.out]; omega)
  obtain ⟨a, c, hv2, hc1, hc2⟩ := hO.sized
  subst hv
  injection hv2 with e1 e2 e3
  subst e3 e1
  unfold maxLen at hc2
  have hld := hO.str ini.length (by rw [HLN.out]; omega)
  rw [show (ini ++ [z])[ini.length]'(by rw [HLN.out]; omega) = z by simp] at hld
  have HO := Lib.hid hO
  have hst := fun w' (h : Own w w' [rowS (.slice (some ⟨g, 0, none⟩) (ini ++ [z]).length cap) (ini ++ [z])]) => (h.sts).take ini.length (by rw [HLN.out]; omega)
  rw [show (ini ++ [z]).take ini.length = ini by simp] at hst
  have HS := Lib.hid hst
  have hz := fun w' (h : Own w w' [rowS (.slice (some ⟨g, 0, none⟩) (ini ++ [z]).length cap) (ini ++ [z])]) => h.str ini.length (by rw [HLN.out]; omega)
  rw [show (ini ++ [z])[ini.length]'(by rw [HLN.out]; omega) = z by simp] at hz
  have HZ := Lib.hid hz
  rw [HLN.out] at hc1 HO HS HZ ⊢
  clear hO hst hz e2
  go_wp2_with fail
  have q1 : (0 : Int) ≤ (ini.length : Int) := by omega
  have q2 : (ini.length : Int) ≤ (cap : Int) := by omega
  have q3 : (ini.length : Int) < (ini.length : Int) + 1 := by omega
  have q4 : ini.length < ini.length + 1 := by omega
  have q5 : ini.length ≤ cap := by omega
  go_region_held3 (fun w' => w'.cell? ⟨g, ini.length, none⟩ = some (.string (toB z))) (first | assumption | go_keep) (first
    | (go_at_call 111; refine (join_any _ ini _ (HS.out _ (by first | exact HO.out.drew | exact HO.out)) hj (by omega)).mono ?_; rintro e w2 ⟨rfl, hb2⟩; have HO2 := Lib.hid (show Own w w2 [rowS (.slice (some ⟨g, 0, none⟩) (ini.length + 1) cap) (ini ++ [z])] from (by first | exact HO.out.drew.later hb2 | exact HO.out.later hb2)); have z2 := HZ.out w2 HO2.out))
  all_goals go_wp2_with fail
  all_goals exact bodyPost_ret (v := .tuple #[.string (toB (joinL ini)), .string (toB z), .bool true]) (by simp [results, Tryz.results87, go_sem]) rfl ⟨rfl, HO2.out.below⟩
end Go.Proofs.YtdjoahhcmkedhaaGreatDoor
end

/- A tree in memory: its nodes as a list by numbers; what stands at a path. -/
section
namespace Go.Proofs.YtdjoahhcmkedhaaGreatDoor
open Go.RowKit
open Go.ChangeMaps (setBlock)
set_option linter.unusedVariables false
set_option linter.unusedSimpArgs false

/-- A node: its block, the block of what stands in it (none: a file), what stands in it, a file's bytes (as a value, and as they are), at how many paths it stands. -/
structure Nd where
  b : Nat
  k : Option Nat
  kids : List (ByteArray × Int)
  dv : Value
  data : List Int
  places : Int
def Nd.foot (n : Nd) : List Nat := n.b :: n.k.toList
def nodeCells (n : Nd) : Array Value := #[.map n.k, n.dv, .int .i64 n.places]
def kidsV (kids : List (ByteArray × Int)) : List (ByteArray × Value) := kids.map fun p => (p.1, .int .i64 p.2)
abbrev KI (i : Int) : Value := .int .i64 i
abbrev KS (s : ByteArray) : Value := .string s
theorem kindsI : Kinds Tryz.prog 3 KI := kinds_int Tryz.underlying3
theorem kindsS : Kinds Tryz.prog 9 KS := kinds_string Tryz.underlying9
structure NodeIn (h : Nat → Obj → Prop) (D : Value → List Int → Prop) (n : Nd) : Prop where
  cells : h n.b (.cells (nodeCells n) 86)
  kid : ∀ k, n.k = some k → ∃ o, h k o ∧ MapO KS o (kidsV n.kids)
  file : n.k = none → n.kids = []
  dat : D n.dv n.data
  form : ∃ a c, n.dv = .slice a n.data.length c
/-- A tree: its map's block, for how many bytes there is room, the number that comes next, its nodes. -/
structure Tr where
  bm : Nat
  quota : Int
  next : Int
  nodes : List (Int × Nd)
def nodesV (T : Tr) : List (Int × Value) := T.nodes.map fun p => (p.1, .pointer (some ⟨p.2.b, 0, none⟩))
def treeCells (T : Tr) : Array Value := #[.int .i64 T.quota, .int .i64 T.next, .map (some T.bm)]
structure TreeIn (h : Nat → Obj → Prop) (D : Value → List Int → Prop) (t : Nat) (T : Tr) : Prop where
  cells : h t (.cells (treeCells T) 75)
  map : ∃ o, h T.bm o ∧ MapO KI o (nodesV T)
  node : ∀ p ∈ T.nodes, NodeIn h D p.2
def Tr.foot (T : Tr) : List Nat := T.bm :: T.nodes.flatMap fun p => p.2.foot
theorem NodeIn.mono {h h' : Nat → Obj → Prop} {D D' : Value → List Int → Prop} {n : Nd} (H : NodeIn h D n) (hh : ∀ b o, b ∈ n.foot → h b o → h' b o) (hD : ∀ v zs, D v zs → D' v zs) : NodeIn h' D' n :=
  ⟨hh _ _ (List.mem_cons_self ..) H.cells, fun k hk => by
    obtain ⟨o, h1, h2⟩ := H.kid k hk
    exact ⟨o, hh _ _ (List.mem_cons_of_mem _ (by rw [hk]; simp)) h1, h2⟩, H.file, hD _ _ H.dat, H.form⟩
theorem TreeIn.mono {h h' : Nat → Obj → Prop} {D D' : Value → List Int → Prop} {t : Nat} {T : Tr} (H : TreeIn h D t T) (hh : ∀ b o, b ∈ t :: T.foot → h b o → h' b o) (hD : ∀ v zs, D v zs → D' v zs) : TreeIn h' D' t T := by
  obtain ⟨o, h1, h2⟩ := H.map
  refine ⟨hh _ _ (List.mem_cons_self ..) H.cells, ⟨o, hh _ _ (List.mem_cons_of_mem _ (List.mem_cons_self ..)) h1, h2⟩, fun p hp => (H.node p hp).mono (fun b o hb => hh b o ?_) hD⟩
  exact List.mem_cons_of_mem _ (List.mem_cons_of_mem _ (List.mem_flatMap.2 ⟨p, hp, hb⟩))
/-- A tree that lies in a world. -/
abbrev inW (w : World) : Nat → Obj → Prop := fun b o => w.heap[b]? = some o
abbrev inS (S : Blocks) : Nat → Obj → Prop := fun b o => (b, o) ∈ S
abbrev anyD : Value → List Int → Prop := fun _ _ => True
theorem TreeIn.later {w w' : World} {D : Value → List Int → Prop} {t : Nat} {T : Tr} (H : TreeIn (inW w) D t T) (hb : Below w.heap.size w w') : TreeIn (inW w') D t T :=
  H.mono (fun b o _ ho => (hb.block b (lt_of_heap ho)).trans ho) (fun _ _ h => h)
theorem TreeIn.inWorld {w0 w : World} {S : Blocks} {L : List Rw} {D : Value → List Int → Prop} {t : Nat} {T : Tr} (H : TreeIn (inS S) D t T) (hO : Own ⟨w0, S⟩ w L) : TreeIn (inW w) D t T :=
  H.mono (fun b o _ ho => hO.at ho) (fun _ _ h => h)
theorem TreeIn.bare {h : Nat → Obj → Prop} {D : Value → List Int → Prop} {t : Nat} {T : Tr} (H : TreeIn h D t T) : TreeIn h anyD t T := H.mono (fun _ _ _ h => h) (fun _ _ _ => trivial)

/-! ### Look-ups -/
theorem look_map {α β γ : Type} [DecidableEq α] (f : β → γ) (m : List (α × β)) (a : α) : look (m.map fun p => (p.1, f p.2)) a = (look m a).map f := by
  induction m with
  | nil => rfl
  | cons p r ih =>
    simp only [List.map_cons, look]
    split
    · rfl
    · exact ih
theorem look_mem {α β : Type} [DecidableEq α] {m : List (α × β)} {a : α} {v : β} (h : look m a = some v) : (a, v) ∈ m := by
  induction m with
  | nil => cases h
  | cons p r ih =>
    unfold look at h
    split at h
    · rename_i e; injection h with h; subst e h; exact List.mem_cons_self ..
    · exact List.mem_cons_of_mem _ (ih h)
theorem zeroNode (w : World) : (zeroValue 71).run Tryz.prog w = .ok (.pointer none) w := by kernel_rfl
theorem zeroInt (w : World) : (zeroValue 3).run Tryz.prog w = .ok (.int .i64 0) w := by kernel_rfl
def ptrOf (n : Option Nd) : Value := match n with
  | some n => .pointer (some ⟨n.b, 0, none⟩)
  | none => .pointer none
theorem TreeIn.look {w : World} {D : Value → List Int → Prop} {t : Nat} {T : Tr} (H : TreeIn (inW w) D t T) (i : Int) :
    (Instr.lookup 73 (.map (some T.bm)) (.int .i64 i) false).run Tryz.prog w = .ok (ptrOf (Go.Proofs.YtdjoahhcmkedhaaGreatDoor.look T.nodes i)) w := by
  obtain ⟨o, h1, h2⟩ := H.map
  have := MapO.lookup kindsI Tryz.underlying73 (zeroNode w) h2 h1 i false
  have e := look_map (fun n : Nd => Value.pointer (some ⟨n.b, 0, none⟩)) T.nodes i
  rw [show nodesV T = T.nodes.map fun p => (p.1, (fun n : Nd => Value.pointer (some ⟨n.b, 0, none⟩)) p.2) from rfl, e] at this
  rw [this]
  cases Go.Proofs.YtdjoahhcmkedhaaGreatDoor.look T.nodes i <;> rfl
theorem NodeIn.look {w : World} {D : Value → List Int → Prop} {n : Nd} (H : NodeIn (inW w) D n) {k : Nat} (hk : n.k = some k) (s : ByteArray) :
    (Instr.lookup 84 (.map (some k)) (.string s) true).run Tryz.prog w = .ok (.tuple #[.int .i64 ((Go.Proofs.YtdjoahhcmkedhaaGreatDoor.look n.kids s).getD 0), .bool (Go.Proofs.YtdjoahhcmkedhaaGreatDoor.look n.kids s).isSome]) w := by
  obtain ⟨o, h1, h2⟩ := H.kid k hk
  have := MapO.lookup kindsS Tryz.underlying84 (zeroInt w) h2 h1 s true
  have e := look_map (fun i : Int => Value.int .i64 i) n.kids s
  rw [show kidsV n.kids = n.kids.map fun p => (p.1, (fun i : Int => Value.int .i64 i) p.2) from rfl, e] at this
  rw [this]
  cases Go.Proofs.YtdjoahhcmkedhaaGreatDoor.look n.kids s <;> rfl
theorem lookup_nil (w : World) (s : ByteArray) : (Instr.lookup 84 (.map none) (.string s) true).run Tryz.prog w = .ok (.tuple #[.int .i64 0, .bool false]) w := by
  have h1 : (Instr.checkKey true 10000 9 (.string s)).run Tryz.prog w = .ok () w := kindsS.check true s w
  have h2 : (Instr.findKey 9 (.string s) []).run Tryz.prog w = .ok none w := MapKept.run_findKey (d := .string) Tryz.underlying9 rfl
  simp [Instr.lookup, run_underlying Tryz.underlying84, Sem.run_bind, Result.andThen, h1, h2, zeroInt]

/-- What stands at names, from a node on. -/
def walkT (T : Tr) (i : Int) : List (List UInt8) → Option Int
  | [] => some i
  | n :: r => match look T.nodes i with
    | none => none
    | some nd => match look nd.kids (toB n) with
      | none => none
      | some j => walkT T j r
/-- All numbers that are told are there; the root is a directory. -/
structure Good (T : Tr) : Prop where
  keys : (T.nodes.map (·.1)).Nodup
  root : ∃ n k, look T.nodes 1 = some n ∧ n.k = some k
  kids : ∀ p ∈ T.nodes, ∀ q ∈ p.2.kids, ∃ n, look T.nodes q.2 = some n
  low : ∀ p ∈ T.nodes, 1 ≤ p.1 ∧ (p.1 = 1 ∨ p.1 < T.next)
def findT (T : Tr) (l : List UInt8) : Option Int := if okP l then walkT T 1 (namesL l) else none
theorem walkT_snoc (T : Tr) (i : Int) (a : List (List UInt8)) (n : List UInt8) : walkT T i (a ++ [n]) = match walkT T i a with
    | none => none
    | some j => match look T.nodes j with
      | none => none
      | some nd => look nd.kids (toB n) := by
  induction a generalizing i with
  | nil =>
    simp only [List.nil_append, walkT]
    cases look T.nodes i with
    | none => rfl
    | some nd => cases h : look nd.kids (toB n) <;> simp [walkT, h]
  | cons x r ih =>
    simp only [List.cons_append, walkT]
    cases h1 : look T.nodes i with
    | none => rfl
    | some nd =>
      cases h2 : look nd.kids (toB x) with
      | none => simp only [h2]
      | some j => simp only [h2]; exact ih j
theorem walkT_there {T : Tr} (G : Good T) {i j : Int} (hi : ∃ n, look T.nodes i = some n) {a : List (List UInt8)} (h : walkT T i a = some j) : ∃ n, look T.nodes j = some n := by
  induction a generalizing i with
  | nil => injection h with h; subst h; exact hi
  | cons x r ih =>
    obtain ⟨n, hn⟩ := hi
    simp only [walkT, hn] at h
    cases hx : look n.kids (toB x) with
    | none => rw [hx] at h; cases h
    | some m =>
      rw [hx] at h
      exact ih (G.kids _ (look_mem hn) _ (look_mem hx)) h
end Go.Proofs.YtdjoahhcmkedhaaGreatDoor
end

/- Calls that read a tree: dir, loose, Find, stands, Dir, Nodes. -/
section
namespace Go.Proofs.YtdjoahhcmkedhaaGreatDoor
open Go.RowKit
open Go.ChangeMaps (setBlock)
set_option linter.unusedVariables false
set_option linter.unusedSimpArgs false
set_option maxRecDepth 100000

theorem NodeIn.at0 {w : World} {D : Value → List Int → Prop} {n : Nd} (H : NodeIn (inW w) D n) : w.cell? ⟨n.b, 0, none⟩ = some (.map n.k) ∧ w.cell? ⟨n.b, 1, none⟩ = some n.dv ∧ w.cell? ⟨n.b, 2, none⟩ = some (.int .i64 n.places) := by
  have h := H.cells
  exact ⟨by rw [cell_at h 0]; rfl, by rw [cell_at h 1]; rfl, by rw [cell_at h 2]; rfl⟩
theorem TreeIn.at0 {w : World} {D : Value → List Int → Prop} {t : Nat} {T : Tr} (H : TreeIn (inW w) D t T) : w.cell? ⟨t, 0, none⟩ = some (.int .i64 T.quota) ∧ w.cell? ⟨t, 1, none⟩ = some (.int .i64 T.next) ∧ w.cell? ⟨t, 2, none⟩ = some (.map (some T.bm)) := by
  have h := H.cells
  exact ⟨by rw [cell_at h 0]; rfl, by rw [cell_at h 1]; rfl, by rw [cell_at h 2]; rfl⟩
theorem neq_map (k : Option Nat) (w : World) : (binOp BinOp.neq 84 (.map k) (.map none)).run Tryz.prog w = .ok (.bool k.isSome) w := by
  cases k <;> kernel_rfl
theorem dir_cell {w : World} {b : Nat} {k : Option Nat} (hc : w.cell? ⟨b, 0, none⟩ = some (.map k)) : Calls Tryz.prog 58 #[.pointer (some ⟨b, 0, none⟩)] w fun e w' => e = .returned (.bool k.isSome) ∧ w = w' := by
  cases k with
  | none =>
    have hq := neq_map none w
    go_enter Tryz.func58, Tryz.ntmps58
    go_wp2
    go_ret
    exact ⟨rfl, rfl⟩
  | some k =>
    have hq := neq_map (some k) w
    go_enter Tryz.func58, Tryz.ntmps58
    go_wp2
    go_ret
    exact ⟨rfl, rfl⟩
theorem dir_any {w : World} {D : Value → List Int → Prop} {n : Nd} (H : NodeIn (inW w) D n) : Calls Tryz.prog 58 #[.pointer (some ⟨n.b, 0, none⟩)] w fun e w' => e = .returned (.bool n.k.isSome) ∧ w = w' := dir_cell H.at0.1
def Nd.loose (n : Nd) : Bool := !n.k.isSome && (n.places == 0)
theorem loose_any {w : World} {D : Value → List Int → Prop} {n : Nd} (H : NodeIn (inW w) D n) : Calls Tryz.prog 37 #[.pointer (some ⟨n.b, 0, none⟩)] w fun e w' => e = .returned (.bool n.loose) ∧ w = w' := by
  obtain ⟨c0, _, c2⟩ := H.at0
  have hd := dir_any H
  cases hk : n.k with
  | none =>
    rw [hk] at hd
    have hl : n.loose = (n.places == 0) := by unfold Nd.loose; rw [hk]; rfl
    rw [hl]
    go_enter Tryz.func37, Tryz.ntmps37
    go_wp2_with (go_at_call 58; refine hd.mono ?_; rintro e w' ⟨rfl, rfl⟩)
    go_ret
    exact ⟨rfl, rfl⟩
  | some k =>
    rw [hk] at hd
    have hl : n.loose = false := by unfold Nd.loose; rw [hk]; rfl
    rw [hl]
    go_enter Tryz.func37, Tryz.ntmps37
    go_wp2_with (go_at_call 58; refine hd.mono ?_; rintro e w' ⟨rfl, rfl⟩)
    go_ret
    exact ⟨rfl, rfl⟩
theorem nodes_any {w : World} {D : Value → List Int → Prop} {t : Nat} {T : Tr} (H : TreeIn (inW w) D t T) : Calls Tryz.prog 24 #[.pointer (some ⟨t, 0, none⟩)] w fun e w' => e = .returned (.int .i64 (T.nodes.length : Int)) ∧ w = w' := by
  obtain ⟨_, _, c2⟩ := H.at0
  obtain ⟨o, h1, h2⟩ := H.map
  have hl : ∀ ty, (Builtin.len_ #[73] ty #[.map (some T.bm)]).run Tryz.prog w = _ := fun ty => MapO.length Tryz.underlying73 h2 h1 ty
  rw [show (nodesV T).length = T.nodes.length by simp [nodesV]] at hl
  go_enter Tryz.func24, Tryz.ntmps24
  go_wp2
  go_ret
  exact ⟨rfl, rfl⟩
set_option maxHeartbeats 1000000 in
theorem find_any {w : World} {D : Value → List Int → Prop} {t : Nat} {T : Tr} (H : TreeIn (inW w) D t T) (G : Good T) (s : ByteArray) (hs : s.size ≤ maxLen) (hm : Mx w) :
    Calls Tryz.prog 15 #[.pointer (some ⟨t, 0, none⟩), .string s] w fun e w' => e = .returned (.tuple #[.int .i64 ((findT T s.data.toList).getD 0), .bool (findT T s.data.toList).isSome]) ∧ Below w.heap.size w w' := by
  have hsp := split_any s w hs hm
  generalize s.data.toList = l at *
  by_cases ho : okP l = true
  · have hf : findT T l = walkT T 1 (namesL l) := by unfold findT; rw [if_pos ho]
    rw [hf]
    obtain ⟨R, hR⟩ : ∃ R, walkT T 1 (namesL l) = R := ⟨_, rfl⟩
    have HRR := Lib.hid hR
    rw [hR]
    clear hR
    go_enter Tryz.func15, Tryz.ntmps15
    go_wp2_with fail
    refine hsp.mono ?_
    rintro e w1 ⟨v, rfl, hO⟩
    obtain ⟨a, c, rfl, hn1, hn2⟩ := hO.sized
    have hb1 := hO.below
    have H1 := Lib.hid (H.later hb1)
    have HS := Lib.hid hO.sts
    obtain ⟨_, _, c2⟩ := (H.later hb1).at0
    have hlen := (names_bounds l).1
    unfold maxLen at hn2
    clear hO hsp hf H
    rw [ho]
    generalize namesL l = ls at *
    go_wp2_with fail
    go_loop [8, 20] (fun u i => ∃ (k : Nat) (cur : Int), k ≤ ls.length ∧ i = .int .i64 k ∧ u = .int .i64 cur ∧ Hid (walkT T 1 (ls.take k) = some cur)) (fun _ i => ls.length - (intOf i).toNat)
    case atStart => exact ⟨0, 1, Nat.zero_le _, rfl, rfl, rfl⟩
    case round =>
      obtain ⟨k, cur, hk, rfl, rfl, HW⟩ := hrel
      by_cases hlt : k < ls.length
      · obtain ⟨a', c', e1, _, _, h3⟩ := HS.out
        injection e1 with e1 e2 e3
        subst e1 e3
        obtain ⟨b, o, rfl, _, hcs⟩ := h3 (by omega)
        have hc := hcs k hlt
        clear hcs
        obtain ⟨nd, hnd⟩ := walkT_there G (by obtain ⟨n, _, h, _⟩ := G.root; exact ⟨n, h⟩) HW.out
        have hlk := H1.out.look cur
        rw [hnd] at hlk
        have hN := H1.out.node _ (look_mem hnd)
        obtain ⟨d0, _, _⟩ := hN.at0
        have hsn := walkT_snoc T 1 (ls.take k) ls[k]
        rw [HW.out, ← List.take_succ_eq_append_getElem hlt] at hsn
        simp only [hnd] at hsn
        have hfull : look nd.kids (toB ls[k]) = none → walkT T 1 ls = none := fun hx => by
          have : ∀ (r a : List (List UInt8)) (i : Int), walkT T i a = none → walkT T i (a ++ r) = none := by
            intro r a
            induction a with
            | nil => intro i h; cases h
            | cons x a ih =>
              intro i h
              simp only [List.cons_append, walkT] at h ⊢
              cases h1 : look T.nodes i with
              | none => rfl
              | some n =>
                simp only [h1] at h ⊢
                cases h2 : look n.kids (toB x) with
                | none => rfl
                | some j => simp only [h2] at h ⊢; exact ih j h
          have h5 := this (ls.drop (k + 1)) (ls.take (k + 1)) 1 (by rw [hsn, hx])
          rwa [List.take_append_drop] at h5
        have HSn := Lib.hid hsn
        have HFl := Lib.hid hfull
        have hkl : (Instr.lookup 84 (.map nd.k) (.string (toB ls[k])) true).run Tryz.prog w1 = .ok (.tuple #[.int .i64 ((look nd.kids (toB ls[k])).getD 0), .bool (look nd.kids (toB ls[k])).isSome]) w1 := by
          cases hkk : nd.k with
          | none => rw [hN.file hkk]; exact lookup_nil w1 _
          | some kb => exact hN.look hkk _
        clear hsn hfull h3 hN hnd
        generalize hL : look nd.kids (toB ls[k]) = lk at *
        generalize ls[k] = x at *
        clear hL
        dsimp only [ptrOf] at hlk
        cases lk with
        | none =>
          have HX := Lib.hid (HFl.out rfl)
          clear HFl HSn HW
          dsimp only [Option.getD_none, Option.isSome_none] at hkl
          go_wp2_with fail
          go_ret2
          exact ⟨by rw [← HRR.out, HX.out]; rfl, hb1⟩
        | some j =>
          clear HFl
          dsimp only [Option.getD_some, Option.isSome_some] at hkl
          go_wp2_with fail
          go_round
          case rel => exact ⟨k + 1, j, by omega, by go_num, rfl, HSn⟩
          case measure => simp [intOf]; omega
      · have HT := Lib.hid (show walkT T 1 ls = some cur by have := HW.out; rwa [List.take_of_length_le (by omega)] at this)
        clear HW
        go_wp2_with fail
        go_ret2
        exact ⟨by rw [← HRR.out, HT.out]; rfl, hb1⟩
  · have ho' : okP l = false := by simpa using ho
    have hf : findT T l = none := by unfold findT; rw [if_neg ho]
    rw [hf]
    clear ho hf
    go_enter Tryz.func15, Tryz.ntmps15
    go_wp2_with fail
    refine hsp.mono ?_
    rintro e w1 ⟨v, rfl, hO⟩
    obtain ⟨a, c, rfl, hn1, hn2⟩ := hO.sized
    have hb1 := hO.below
    rw [ho']
    clear hO
    go_wp2_with fail
    go_ret2
    exact ⟨rfl, hb1⟩
end Go.Proofs.YtdjoahhcmkedhaaGreatDoor
end

/- Calls that read a tree: stands, Dir, Used. -/
section
namespace Go.Proofs.YtdjoahhcmkedhaaGreatDoor
open Go.RowKit
open Go.ChangeMaps (setBlock)
set_option linter.unusedVariables false
set_option linter.unusedSimpArgs false
set_option maxRecDepth 100000

def standT (T : Tr) (l : List UInt8) : Option Nd := (findT T l).bind fun i => look T.nodes i
theorem look_zero {T : Tr} (G : Good T) : look T.nodes 0 = none := by
  cases h : look T.nodes 0 with
  | none => rfl
  | some n => have : (1 : Int) ≤ 0 := (G.low _ (look_mem h)).1; omega
theorem find_there {T : Tr} (G : Good T) {l : List UInt8} {i : Int} (h : findT T l = some i) : ∃ n, look T.nodes i = some n := by
  unfold findT at h
  split at h
  · exact walkT_there G (by obtain ⟨n, _, h, _⟩ := G.root; exact ⟨n, h⟩) h
  · cases h
theorem stands_any {w : World} {D : Value → List Int → Prop} {t : Nat} {T : Tr} (H : TreeIn (inW w) D t T) (G : Good T) (s : ByteArray) (hs : s.size ≤ maxLen) (hm : Mx w) :
    Calls Tryz.prog 57 #[.pointer (some ⟨t, 0, none⟩), .string s] w fun e w' => e = .returned (ptrOf (standT T s.data.toList)) ∧ Below w.heap.size w w' := by
  have hf := find_any H G s hs hm
  have hst : look T.nodes ((findT T s.data.toList).getD 0) = standT T s.data.toList := by
    unfold standT
    cases findT T s.data.toList with
    | none => exact look_zero G
    | some i => rfl
  have HS := Lib.hid hst
  clear hst
  generalize (findT T s.data.toList).getD 0 = i at *
  go_enter Tryz.func57, Tryz.ntmps57
  go_wp2_with fail
  refine hf.mono ?_
  rintro e w1 ⟨rfl, hb⟩
  have h1 := H.later hb
  obtain ⟨_, _, c2⟩ := h1.at0
  have hlk := h1.look i
  rw [HS.out] at hlk
  clear H h1
  go_wp2_with fail
  go_ret
  exact ⟨rfl, hb⟩
def dirT (T : Tr) (l : List UInt8) : Bool := match standT T l with
  | some n => n.k.isSome
  | none => false
theorem stand_mem {T : Tr} {l : List UInt8} {n : Nd} (h : standT T l = some n) : ∃ i, (i, n) ∈ T.nodes := by
  unfold standT at h
  cases hf : findT T l with
  | none => rw [hf] at h; cases h
  | some i => rw [hf] at h; exact ⟨i, look_mem h⟩
theorem isdir_any {w : World} {D : Value → List Int → Prop} {t : Nat} {T : Tr} (H : TreeIn (inW w) D t T) (G : Good T) (s : ByteArray) (hs : s.size ≤ maxLen) (hm : Mx w) :
    Calls Tryz.prog 27 #[.pointer (some ⟨t, 0, none⟩), .string s] w fun e w' => e = .returned (.bool (dirT T s.data.toList)) ∧ Below w.heap.size w w' := by
  have hf := stands_any H G s hs hm
  cases hst : standT T s.data.toList with
  | none =>
    rw [hst] at hf
    have hd : dirT T s.data.toList = false := by unfold dirT; rw [hst]
    rw [hd]
    dsimp only [ptrOf] at hf
    clear hst hd
    go_enter Tryz.func27, Tryz.ntmps27
    go_wp2_with fail
    refine hf.mono ?_
    rintro e w1 ⟨rfl, hb⟩
    go_wp2_with fail
    go_ret
    exact ⟨rfl, hb⟩
  | some n =>
    rw [hst] at hf
    have hd : dirT T s.data.toList = n.k.isSome := by unfold dirT; rw [hst]
    rw [hd]
    obtain ⟨i, hi⟩ := stand_mem hst
    have hN := H.node _ hi
    dsimp only [ptrOf] at hf
    clear hst hd
    go_enter Tryz.func27, Tryz.ntmps27
    go_wp2_with fail
    refine hf.mono ?_
    rintro e w1 ⟨rfl, hb⟩
    have hd1 := dir_any ((H.later hb).node _ hi)
    clear hN H
    go_wp2_with (go_at_call 58; refine hd1.mono ?_; rintro e w' ⟨rfl, rfl⟩)
    go_ret
    exact ⟨rfl, hb⟩

/-! ### Used -/
def sumT (l : List (Int × Nd)) : Nat := (l.map fun p => p.2.data.length).sum
theorem sumT_perm {a b : List (Int × Nd)} (h : a.Perm b) : sumT a = sumT b := (h.map _).sum_nat
def ndV (l : List (Int × Nd)) : List (Int × Value) := l.map fun p => (p.1, .pointer (some ⟨p.2.b, 0, none⟩))
theorem below_setBlock {B : Nat} {a w : World} (h : Below B a w) {r : Nat} (hr : B ≤ r) (o : Obj) : Below B a (setBlock w r o) :=
  h.trans ⟨rfl, rfl, rfl, by simp [setBlock], fun i hi => by
    have : r ≠ i := by omega
    simp [setBlock, this]⟩
/-- Going through a tree's nodes: these are done, these still to come. -/
def Walks (w : World) (t : Nat) (T : Tr) (oi o : Obj) (done left : List (Int × Nd)) (wr : World) : Prop :=
  wr.heap[w.heap.size]? = some oi ∧ w.heap[T.bm]? = some o ∧ IterO KI oi T.bm o (nodesV T) (ndV left) ∧ (done ++ left).Perm T.nodes ∧ Below w.heap.size w wr
theorem Walks.start {w : World} {D : Value → List Int → Prop} {t : Nat} {T : Tr} (H : TreeIn (inW w) D t T) : ∃ oi o, (Instr.range 73 (.map (some T.bm))).run Tryz.prog w = .ok (.pointer (some ⟨w.heap.size, 0, none⟩)) (w.alloc oi) ∧ Walks w t T oi o [] T.nodes (w.alloc oi) := by
  obtain ⟨o, h1, h2⟩ := H.map
  obtain ⟨oi, h3, h4⟩ := h2.range Tryz.underlying73 h1
  exact ⟨oi, o, h3, (MapKept.heap_alloc w _).1, h1, h4, List.Perm.refl _, (Below.refl _ _).alloc (Nat.le_refl _) _⟩
theorem ndV_split {l : List (Int × Nd)} {x z : List (Int × Value)} {y : Int × Value} (h : ndV l = x ++ y :: z) : ∃ a p c, l = a ++ p :: c ∧ ndV a = x ∧ y = (p.1, .pointer (some ⟨p.2.b, 0, none⟩)) ∧ ndV c = z := by
  obtain ⟨a, p, c, h1, h2, h3, h4⟩ := map_split _ l x y z h
  exact ⟨a, p, c, h1, h2, h3.symm, h4⟩
theorem Walks.next {w wr : World} {t : Nat} {T : Tr} {oi o : Obj} {done left : List (Int × Nd)} (h : Walks w t T oi o done left wr) :
    (left = [] ∧ ∀ ty, (Instr.next (.pointer (some ⟨w.heap.size, 0, none⟩)) false ty).run Tryz.prog wr = .ok (.tuple #[.bool false]) wr) ∨
    ∃ (l1 l2 : List (Int × Nd)) (p : Int × Nd) (oi' : Obj) (w2 : World), left = l1 ++ p :: l2 ∧ (∀ ty, (Instr.next (.pointer (some ⟨w.heap.size, 0, none⟩)) false ty).run Tryz.prog wr = .ok (.tuple #[.bool true, .int .i64 p.1, .pointer (some ⟨p.2.b, 0, none⟩)]) w2) ∧ Walks w t T oi' o (done ++ [p]) (l1 ++ l2) w2 ∧ p ∈ T.nodes ∧
      (∀ u : World, u.heap[w.heap.size]? = some oi' → u.heap[T.bm]? = some o → (Instr.entry (.pointer (some ⟨w.heap.size, 0, none⟩))).run Tryz.prog u = .ok (.tuple #[.int .i64 p.1, .pointer (some ⟨p.2.b, 0, none⟩)]) u) := by
  obtain ⟨h1, h2, h3, h4, h5⟩ := h
  have hlt := lt_of_heap h2
  have h2' : wr.heap[T.bm]? = some o := (h5.block _ hlt).trans h2
  rcases h3.next (P := Tryz.prog) 0 h1 h2' with ⟨g1, g2⟩ | ⟨x, y, z, w1, oi', g1, g2, g3, g4, g5⟩
  · left
    have : left = [] := List.map_eq_nil_iff.1 g1
    exact ⟨this, fun ty => g2⟩
  · right
    obtain ⟨l1, p, l2, e1, e2, e3, e4⟩ := ndV_split g1
    have hb1 : Below w.heap.size w w1 := by rcases g2 with rfl | rfl; exact h5; exact h5.drew
    have hlt1 : w.heap.size < w1.heap.size := by rcases g2 with rfl | rfl <;> exact lt_of_heap h1
    obtain ⟨s1, s2, s3⟩ := setBlock_heap w1 w.heap.size oi' hlt1
    refine ⟨l1, l2, p, oi', setBlock w1 w.heap.size oi', e1, fun ty => by rw [show (Instr.next (.pointer (some ⟨w.heap.size, 0, none⟩)) false ty) = (Instr.next (.pointer (some ⟨w.heap.size, 0, none⟩)) false 0) from rfl, g3, e3], ⟨s1, h2, by rw [show ndV (l1 ++ l2) = x ++ z by rw [← e2, ← e4]; simp [ndV]]; exact g4, ?_, below_setBlock hb1 (Nat.le_refl _) _⟩, ?_, fun u hu hu2 => by rw [g5 u hu hu2, e3]⟩
    · refine List.Perm.trans ?_ h4
      rw [e1]
      simp only [List.append_assoc, List.singleton_append]
      exact (List.perm_middle.symm).append_left done
    · exact h4.subset (by rw [e1]; simp)
theorem Walks.tree {w wr : World} {D : Value → List Int → Prop} {t : Nat} {T : Tr} {oi o : Obj} {done left : List (Int × Nd)} (h : Walks w t T oi o done left wr) (H : TreeIn (inW w) D t T) : TreeIn (inW wr) D t T := H.later h.2.2.2.2
theorem Walks.entry {w wr : World} {t : Nat} {T : Tr} {oi o : Obj} {done left : List (Int × Nd)} (h : Walks w t T oi o done left wr) : wr.heap[w.heap.size]? = some oi ∧ wr.heap[T.bm]? = some o := ⟨h.1, (h.2.2.2.2.block _ (lt_of_heap h.2.1)).trans h.2.1⟩
def leftN (w : World) (b r : Nat) : Nat := match w.heap[b]?, w.heap[r]? with
  | some (.map es _), some (.mapIter _ _ seen _) => (leftOf es seen).size
  | _, _ => 0
theorem Walks.left_eq {w wr : World} {t : Nat} {T : Tr} {oi o : Obj} {done left : List (Int × Nd)} (h : Walks w t T oi o done left wr) : leftN wr T.bm w.heap.size = left.length := by
  obtain ⟨e1, e2⟩ := h.entry
  obtain ⟨es, clock, since, seen, c0, rfl, rfl, _, _, _, _, _, _, h7⟩ := h.2.2.1
  have := congrArg List.length h7
  simp only [leftN, e1, e2]
  simpa [ndV] using this
def UsedRel (w : World) (t : Nat) (T : Tr) (s : Value) (wr : World) : Prop := ∃ oi o done left, Walks w t T oi o done left wr ∧ s = .int .i64 (sumT done : Nat)
theorem used_any {w : World} {D : Value → List Int → Prop} {t : Nat} {T : Tr} (H : TreeIn (inW w) D t T) (hu : sumT T.nodes ≤ 1000000000) :
    Calls Tryz.prog 25 #[.pointer (some ⟨t, 0, none⟩)] w fun e w' => e = .returned (.int .i64 (sumT T.nodes : Nat)) ∧ Below w.heap.size w w' := by
  obtain ⟨_, _, c2⟩ := H.at0
  obtain ⟨oi, o, hrun, hW⟩ := Walks.start H
  have HW := Lib.hid hW
  have HH := Lib.hid H
  clear H hW
  go_enter Tryz.func25, Tryz.ntmps25
  go_wp2_with fail
  go_loopw [3] (fun s wr => UsedRel w t T s wr) (fun _ wr => leftN wr T.bm w.heap.size)
  case atStart => exact ⟨oi, o, [], T.nodes, HW.out, rfl⟩
  case round =>
    obtain ⟨oi2, o2, done, left, hW, rfl⟩ := hrel
    have hle := hW.left_eq
    have hperm := hW.2.2.2.1
    have HW2 := Lib.hid hW
    have HB := Lib.hid hW.2.2.2.2
    rcases hW.next with ⟨rfl, hn⟩ | ⟨l1, l2, p, oi', w2, rfl, hn, hW', hp, hen⟩
    · have HS := Lib.hid (show sumT done = sumT T.nodes from sumT_perm (by simpa using hperm))
      clear hW hle hperm
      go_wp2_with fail
      go_ret
      exact ⟨by rw [HS.out]; rfl, HB.out⟩
    · have hN := (hW'.tree HH.out).node p hp
      obtain ⟨_, d1, _⟩ := hN.at0
      obtain ⟨a, c, hf⟩ := hN.form
      rw [hf] at d1
      obtain ⟨e1, e2⟩ := hW'.entry
      have hent := hen w2 e1 e2
      have hsum : sumT (done ++ [p]) = sumT done + p.2.data.length := by simp [sumT]
      have htot : sumT (done ++ [p]) ≤ 1000000000 := by
        have h1 := sumT_perm hW'.2.2.2.1
        have h2 : sumT (done ++ [p] ++ (l1 ++ l2)) = sumT (done ++ [p]) + sumT (l1 ++ l2) := by simp [sumT]; omega
        omega
      have HX := Lib.hid (show UsedRel w t T (.int .i64 (sumT (done ++ [p]) : Nat)) w2 from ⟨oi', o2, _, _, hW', rfl⟩)
      have hl2 := hW'.left_eq
      have HL := Lib.hid (show leftN w2 T.bm w.heap.size < leftN wr T.bm w.heap.size by rw [hle, hl2]; simp)
      rw [hsum] at htot
      have HSm := Lib.hid hsum
      clear hW hW' hN hf e1 e2 hen hperm hle hl2 hsum
      generalize sumT done = X at *
      go_wp2_with fail
      go_roundw
      case rel => rw [HSm.out] at HX; have := HX.out; rwa [Int.natCast_add] at this
      case measure => exact HL.out
end Go.Proofs.YtdjoahhcmkedhaaGreatDoor
end

/- A tree that the law has made: what stores make of it; New. -/
section
namespace Go.Proofs.YtdjoahhcmkedhaaGreatDoor
open Go.RowKit
open Go.ChangeMaps (setBlock)
set_option linter.unusedVariables false
set_option linter.unusedSimpArgs false
set_option maxRecDepth 100000

/-- A tree among the law's blocks: no block twice. -/
structure Tree (S : Blocks) (D : Value → List Int → Prop) (t : Nat) (T : Tr) : Prop where
  at_ : TreeIn (inS S) D t T
  apart : (t :: T.foot).Nodup
  good : Good T
/-- What was there and is not the tree's is as it was; what is the tree's was its own, or is new. -/
structure Frame (S S' : Blocks) (F F' : List Nat) (n : Nat) : Prop where
  kept : ∀ b o, (b, o) ∈ S → b ∉ F → (b, o) ∈ S'
  fresh : ∀ b ∈ F', b ∈ F ∨ n ≤ b
theorem Frame.refl (S : Blocks) (F : List Nat) (n : Nat) : Frame S S F F n := ⟨fun _ _ h _ => h, fun _ h => .inl h⟩
theorem foot_mem {T : Tr} {p : Int × Nd} (hp : p ∈ T.nodes) {b : Nat} (hb : b ∈ p.2.foot) : b ∈ T.foot := List.mem_cons_of_mem _ (List.mem_flatMap.2 ⟨p, hp, hb⟩)

theorem newDir_any (w : World) : Calls Tryz.prog 30 #[] w fun e w' => e = .returned (.pointer (some ⟨w.heap.size + 1, 0, none⟩)) ∧ w' = (w.alloc (.map #[] 0)).alloc (.cells #[.map (some w.heap.size), .slice none 0 0, .int .i64 0] 86) := by
  have hmk : ∀ w, (Instr.makeMap 84 none).run Tryz.prog w = .ok (.map (some w.heap.size)) (w.alloc (.map #[] 0)) := fun w => rfl
  go_enter Tryz.func30, Tryz.ntmps30
  go_wp2
  go_ret
  exact ⟨by simp, rfl⟩
/-- A new tree, its blocks from b on. -/
def newNd (b : Nat) : Nd := ⟨b + 1, some b, [], .slice none 0 0, [], 0⟩
def newT (b : Nat) (q : Int) : Tr := ⟨b, max q 0, 2, [(1, newNd (b + 1))]⟩
def NewAt2 (w0 : World) (S : Blocks) (L : List Rw) (D : Value → List Int → Prop) (w : World) (q : Int) (e : Ending) (w' : World) : Prop :=
  ∃ S', e = .returned (.pointer (some ⟨w.heap.size + 3, 0, none⟩)) ∧ Own ⟨w0, S'⟩ w' L ∧ Tree S' D (w.heap.size + 3) (newT w.heap.size q) ∧ (∀ b o, (b, o) ∈ S → (b, o) ∈ S')
theorem new_tree (S : Blocks) (D : Value → List Int → Prop) (b : Nat) (q : Int) (o1 : Obj) (hm1 : MapO KI o1 (put [] (1 : Int) (.pointer (some ⟨b + 2, 0, none⟩)))) (hD : D (.slice none 0 0) []) :
    Tree ((b + 3, .cells (treeCells (newT b q)) 75) :: (b + 2, .cells #[.map (some (b + 1)), .slice none 0 0, .int .i64 0] 86) :: (b + 1, .map #[] 0) :: (b, o1) :: S) D (b + 3) (newT b q) := by
  have hone : ∀ p ∈ (newT b q).nodes, p = (1, newNd (b + 1)) := fun p hp => by simpa [newT] using hp
  refine ⟨⟨List.mem_cons_self .., ⟨o1, List.mem_cons_of_mem _ (List.mem_cons_of_mem _ (List.mem_cons_of_mem _ (List.mem_cons_self ..))), hm1⟩, fun p hp => ?_⟩, ?_, ⟨?_, ?_, ?_, ?_⟩⟩
  · rw [hone p hp]
    refine ⟨List.mem_cons_of_mem _ (List.mem_cons_self ..), fun k hk => ?_, (fun h => by cases h), hD, ⟨none, 0, rfl⟩⟩
    have hk2 : b + 1 = k := by injection hk
    subst hk2
    exact ⟨.map #[] 0, List.mem_cons_of_mem _ (List.mem_cons_of_mem _ (List.mem_cons_self ..)), MapO.empty KS⟩
  · show ([b + 3, b, b + 1 + 1, b + 1] : List Nat).Nodup
    simp; omega
  · show ([1] : List Int).Nodup
    simp
  · exact ⟨newNd (b + 1), b + 1, rfl, rfl⟩
  · intro p hp q' hq'
    rw [hone p hp] at hq'
    exact absurd hq' (by simp [newNd])
  · intro p hp
    rw [hone p hp]
    exact ⟨Int.le_refl _, .inl rfl⟩
theorem upd_not {S : Blocks} {b : Nat} (o : Obj) (h : ∀ m ∈ S, m.1 ≠ b) : upd S b o = S := by
  unfold upd
  refine (List.map_congr_left fun m hm => ?_).trans (List.map_id _)
  rw [if_neg (h m hm)]; rfl
theorem tnew_any {w0 w : World} {S : Blocks} {L : List Rw} {D : Value → List Int → Prop} (hO : Own ⟨w0, S⟩ w L) (hD : D (.slice none 0 0) []) (q : Int) (hq : (Lit.int .i64 q).wf = true) :
    Calls Tryz.prog 9 #[.int .i64 q] w (NewAt2 w0 S L D w q) := by
  have h1 := hO.newB (.map #[] 0)
  have h2 := h1.newB (.map #[] 0)
  have h3 := h2.newB (.cells #[.map (some (w.heap.size + 1)), .slice none 0 0, .int .i64 0] 86)
  have e1 : (w.alloc (.map #[] 0)).heap.size = w.heap.size + 1 := by simp
  have e2 : ((w.alloc (.map #[] 0)).alloc (.map #[] 0)).heap.size = w.heap.size + 2 := by simp
  rw [e1, e2] at h3
  have hnd := newDir_any (w.alloc (.map #[] 0))
  rw [e1] at hnd
  have hmk : ∀ w, (Instr.makeMap 73 none).run Tryz.prog w = .ok (.map (some w.heap.size)) (w.alloc (.map #[] 0)) := fun w => rfl
  have es3 : (((w.alloc (.map #[] 0)).alloc (.map #[] 0)).alloc (.cells #[.map (some (w.heap.size + 1)), .slice none 0 0, .int .i64 0] 86)).heap.size = w.heap.size + 3 := by simp
  obtain ⟨W3, hW3⟩ : ∃ W3, W3 = ((w.alloc (.map #[] 0)).alloc (.map #[] 0)).alloc (.cells #[.map (some (w.heap.size + 1)), .slice none 0 0, .int .i64 0] 86) := ⟨_, rfl⟩
  rw [← hW3] at h3 hnd es3
  clear hW3 h1 h2
  obtain ⟨o1, hup, hm1⟩ := (MapO.empty KI).update kindsI Tryz.underlying73 (h3.at (b := w.heap.size) (o := .map #[] 0) (by simp)) 1 (.pointer (some ⟨w.heap.size + 2, 0, none⟩))
  have h4 := h3.setB (b := w.heap.size) (o := .map #[] 0) (by simp) o1
  have e4 : (setBlock W3 w.heap.size o1).heap.size = w.heap.size + 3 := by rw [(setBlock_heap W3 w.heap.size o1 (by omega)).2.2, es3]
  obtain ⟨W4, hW4⟩ : ∃ W4, W4 = setBlock W3 w.heap.size o1 := ⟨_, rfl⟩
  rw [← hW4] at h4 hup e4
  clear hW4
  have h5 := h4.newB (.cells (treeCells (newT w.heap.size q)) 75)
  have hS : upd S w.heap.size o1 = S := upd_not o1 fun m hm e => by have := lt_of_heap (hO.maps m hm).2; omega
  rw [e4, show upd ((w.heap.size + 2, Obj.cells #[.map (some (w.heap.size + 1)), .slice none 0 0, .int .i64 0] 86) :: (w.heap.size + 1, Obj.map #[] 0) :: (w.heap.size, Obj.map #[] 0) :: S) w.heap.size o1 = (w.heap.size + 2, Obj.cells #[.map (some (w.heap.size + 1)), .slice none 0 0, .int .i64 0] 86) :: (w.heap.size + 1, Obj.map #[] 0) :: (w.heap.size, o1) :: upd S w.heap.size o1 by
    unfold upd
    rw [List.map_cons, List.map_cons, List.map_cons, if_neg (by simp), if_neg (by simp), if_pos rfl], hS] at h5
  have HP := Lib.hid (show NewAt2 w0 S L D w q (.returned (.pointer (some ⟨w.heap.size + 3, 0, none⟩))) (W4.alloc (.cells (treeCells (newT w.heap.size q)) 75)) from
    ⟨_, rfl, h5, new_tree S D _ q o1 hm1 hD, fun b o hb => List.mem_cons_of_mem _ (List.mem_cons_of_mem _ (List.mem_cons_of_mem _ (List.mem_cons_of_mem _ hb)))⟩)
  clear h3 h4 h5 hS hm1 hO hD e1 e2 es3
  go_enter Tryz.func9, Tryz.ntmps9
  go_wp2_with (go_at_call 30; refine hnd.mono ?_; rintro e w' ⟨rfl, rfl⟩)
  go_ret
  exact HP.out
end Go.Proofs.YtdjoahhcmkedhaaGreatDoor
end

/- A tree with one of its nodes turned. -/
section
namespace Go.Proofs.YtdjoahhcmkedhaaGreatDoor
open Go.RowKit
open Go.ChangeMaps (setBlock)
set_option linter.unusedVariables false
set_option linter.unusedSimpArgs false

section
variable {α β : Type} [DecidableEq α]
theorem look_put (m : List (α × β)) (i j : α) (v : β) : look (put m i v) j = if j = i then some v else look m j := by
  induction m with
  | nil =>
    unfold put look
    by_cases h : j = i
    · rw [if_pos h.symm, if_pos h]
    · rw [if_neg (fun e => h e.symm), if_neg h]; rfl
  | cons p r ih =>
    unfold put
    by_cases hp : p.1 = i
    · rw [if_pos hp]
      unfold look
      by_cases h : j = i
      · rw [if_pos h, if_pos h.symm]
      · rw [if_neg (fun e => h e.symm), if_neg h, if_neg (fun e => h (e.symm.trans hp))]
    · rw [if_neg hp]
      unfold look
      by_cases h : p.1 = j
      · rw [if_pos h, if_pos h, if_neg (fun e => hp (h.trans e))]
      · rw [if_neg h, if_neg h]; exact ih
theorem put_keys {m : List (α × β)} {i : α} {n : β} (h : look m i = some n) (v : β) : (put m i v).map (·.1) = m.map (·.1) := by
  induction m with
  | nil => cases h
  | cons p r ih =>
    unfold put
    unfold look at h
    by_cases hp : p.1 = i
    · rw [if_pos hp]; simp [hp]
    · rw [if_neg hp] at h ⊢
      simp [ih h]
theorem mem_put {m : List (α × β)} {i : α} {n : β} (hd : (m.map (·.1)).Nodup) (h : look m i = some n) {v : β} {p : α × β} (hp : p ∈ put m i v) : p = (i, v) ∨ (p ∈ m ∧ p.1 ≠ i) := by
  induction m with
  | nil => cases h
  | cons q r ih =>
    rw [List.map_cons, List.nodup_cons] at hd
    unfold put at hp
    unfold look at h
    by_cases hq : q.1 = i
    · rw [if_pos hq] at hp
      rcases List.mem_cons.1 hp with rfl | hp
      · exact .inl rfl
      · refine .inr ⟨List.mem_cons_of_mem _ hp, fun e => hd.1 ?_⟩
        rw [hq, ← e]; exact List.mem_map_of_mem hp
    · rw [if_neg hq] at hp h
      rcases List.mem_cons.1 hp with rfl | hp
      · exact .inr ⟨List.mem_cons_self .., hq⟩
      · rcases ih hd.2 h hp with h1 | ⟨h1, h2⟩
        · exact .inl h1
        · exact .inr ⟨List.mem_cons_of_mem _ h1, h2⟩
theorem put_map {γ : Type} (f : β → γ) {m : List (α × β)} {i : α} {n v : β} (h : look m i = some n) (hv : f v = f n) : (put m i v).map (fun p => (p.1, f p.2)) = m.map (fun p => (p.1, f p.2)) := by
  induction m with
  | nil => cases h
  | cons p r ih =>
    unfold put
    unfold look at h
    by_cases hp : p.1 = i
    · rw [if_pos hp] at h ⊢
      injection h with h
      simp [hp, hv, h]
    · rw [if_neg hp] at h ⊢
      simp [ih h]
theorem put_flat {γ : Type} (f : β → List γ) {m : List (α × β)} {i : α} {n v : β} (h : look m i = some n) (hv : f v = f n) : (put m i v).flatMap (fun p => f p.2) = m.flatMap (fun p => f p.2) := by
  have := put_map f h hv
  have e : ∀ l : List (α × β), l.flatMap (fun p => f p.2) = (l.map (fun p => (p.1, f p.2))).flatMap (·.2) := fun l => by rw [List.flatMap_map]
  rw [e, e, this]
theorem look_some_of_key {m : List (α × β)} {i : α} (h : i ∈ m.map (·.1)) : ∃ v, look m i = some v := by
  induction m with
  | nil => cases h
  | cons p r ih =>
    unfold look
    by_cases hp : p.1 = i
    · exact ⟨p.2, by rw [if_pos hp]⟩
    · rw [if_neg hp]
      simp only [List.map_cons, List.mem_cons] at h
      rcases h with h | h
      · exact absurd h.symm hp
      · exact ih h
theorem look_of_mem {m : List (α × β)} (hd : (m.map (·.1)).Nodup) {p : α × β} (hp : p ∈ m) : look m p.1 = some p.2 := by
  induction m with
  | nil => cases hp
  | cons q r ih =>
    rw [List.map_cons, List.nodup_cons] at hd
    unfold look
    rcases List.mem_cons.1 hp with rfl | hp
    · rw [if_pos rfl]
    · rw [if_neg (fun e => hd.1 (by rw [e]; exact List.mem_map_of_mem hp))]
      exact ih hd.2 hp
end

def Tr.setN (T : Tr) (i : Int) (n : Nd) : Tr := { T with nodes := put T.nodes i n }
theorem foot_apart {t : Nat} {T : Tr} (h : (t :: T.foot).Nodup) {p q : Int × Nd} (hp : p ∈ T.nodes) (hq : q ∈ T.nodes) (hd : (T.nodes.map (·.1)).Nodup) (hne : p.1 ≠ q.1) {b : Nat} (hb : b ∈ p.2.foot) : b ∉ q.2.foot := by
  unfold Tr.foot at h
  have h2 := (List.nodup_cons.1 (List.nodup_cons.1 h).2).2
  clear h
  generalize T.nodes = m at *
  induction m with
  | nil => cases hp
  | cons x r ih =>
    rw [List.flatMap_cons] at h2
    obtain ⟨a1, a2, a3⟩ := List.nodup_append.1 h2
    rw [List.map_cons, List.nodup_cons] at hd
    rcases List.mem_cons.1 hp with rfl | hp'
    · rcases List.mem_cons.1 hq with rfl | hq'
      · exact absurd rfl hne
      · exact fun hx => a3 b hb b (List.mem_flatMap.2 ⟨q, hq', hx⟩) rfl
    · rcases List.mem_cons.1 hq with rfl | hq'
      · exact fun hx => a3 b hx b (List.mem_flatMap.2 ⟨p, hp', hb⟩) rfl
      · exact ih hp' hq' hd.2 a2
theorem Tree.setN {S S' : Blocks} {D : Value → List Int → Prop} {t : Nat} {T : Tr} (H : Tree S D t T) {i : Int} {n n' : Nd} (hn : look T.nodes i = some n) (hb : n'.b = n.b) (hk : n'.k = n.k)
    (hS : ∀ b o, (b, o) ∈ S → b ∉ n.foot → (b, o) ∈ S') (hN : NodeIn (inS S') D n') (hg : ∀ q ∈ n'.kids, ∃ m, look T.nodes q.2 = some m) : Tree S' D t (T.setN i n') := by
  have hf : n'.foot = n.foot := by unfold Nd.foot; rw [hb, hk]
  have hfoot : (T.setN i n').foot = T.foot := by
    unfold Tr.foot Tr.setN
    rw [put_flat (fun n : Nd => n.foot) hn hf]
  have hmem := look_mem hn
  have ht : t ∉ n.foot := fun hx => (List.nodup_cons.1 H.apart).1 (foot_mem hmem hx)
  have hbm : T.bm ∉ n.foot := fun hx => (List.nodup_cons.1 (List.nodup_cons.1 H.apart).2).1 (List.mem_flatMap.2 ⟨_, hmem, hx⟩)
  have hlk : ∀ j m, look T.nodes j = some m → ∃ m', look (T.setN i n').nodes j = some m' := fun j m hj => by
    unfold Tr.setN
    rw [look_put]
    split
    · exact ⟨_, rfl⟩
    · exact ⟨m, hj⟩
  obtain ⟨o, h1, h2⟩ := H.at_.map
  refine ⟨⟨hS _ _ H.at_.cells ht, ⟨o, hS _ _ h1 hbm, ?_⟩, fun p hp => ?_⟩, by rw [hfoot]; exact H.apart, ⟨?_, ?_, ?_, ?_⟩⟩
  · have : nodesV (T.setN i n') = nodesV T := put_map (fun n : Nd => Value.pointer (some ⟨n.b, 0, none⟩)) hn (by rw [hb])
    rw [this]; exact h2
  · rcases mem_put H.good.keys hn hp with rfl | ⟨h3, h4⟩
    · exact hN
    · exact (H.at_.node p h3).mono (fun b o hb2 ho => hS _ _ ho (foot_apart H.apart h3 hmem H.good.keys h4 hb2)) (fun _ _ h => h)
  · unfold Tr.setN; rw [put_keys hn]; exact H.good.keys
  · obtain ⟨r, k, h3, h4⟩ := H.good.root
    unfold Tr.setN
    rw [look_put]
    by_cases h : (1 : Int) = i
    · rw [if_pos h]
      subst h
      rw [h3] at hn
      injection hn with hn
      subst hn
      exact ⟨n', k, rfl, by rw [hk]; exact h4⟩
    · rw [if_neg h]; exact ⟨r, k, h3, h4⟩
  · intro p hp q hq
    rcases mem_put H.good.keys hn hp with rfl | ⟨h3, _⟩
    · obtain ⟨m, hm⟩ := hg q hq
      exact hlk _ _ hm
    · obtain ⟨m, hm⟩ := H.good.kids p h3 q hq
      exact hlk _ _ hm
  · intro p hp
    rcases mem_put H.good.keys hn hp with rfl | ⟨h3, _⟩
    · exact (show 1 ≤ i ∧ (i = 1 ∨ i < T.next) from H.good.low _ hmem)
    · exact H.good.low p h3
theorem Tree.setKids {S : Blocks} {D : Value → List Int → Prop} {t : Nat} {T : Tr} (H : Tree S D t T) {i : Int} {n : Nd} (hn : look T.nodes i = some n) {k : Nat} (hk : n.k = some k) {o' : Obj} {kids' : List (ByteArray × Int)}
    (ho : MapO KS o' (kidsV kids')) (hg : ∀ q ∈ kids', ∃ m, look T.nodes q.2 = some m) : Tree (upd S k o') D t (T.setN i { n with kids := kids' }) := by
  have hN := H.at_.node _ (look_mem hn)
  have hkb : n.b ≠ k := fun e => by
    have h1 := (List.nodup_cons.1 (List.nodup_cons.1 H.apart).2).2
    have h2 : n.foot.Nodup := by
      obtain ⟨a, z, hz⟩ := List.append_of_mem (look_mem hn)
      rw [hz, List.flatMap_append, List.flatMap_cons] at h1
      exact (List.nodup_append.1 (List.nodup_append.1 h1).2.1).1
    unfold Nd.foot at h2
    rw [hk, e] at h2
    simp at h2
  obtain ⟨o, h1, _⟩ := hN.kid k hk
  refine H.setN hn rfl rfl (fun b x hb hnb => upd_other hb (fun e => hnb (by rw [e]; unfold Nd.foot; rw [hk]; simp)) o') ⟨upd_other hN.cells hkb o', fun k2 hk2 => ?_, (fun h => by rw [hk] at h; cases h), hN.dat, hN.form⟩ hg
  have : k = k2 := by rw [hk] at hk2; injection hk2
  subst this
  exact ⟨o', upd_same h1 o', ho⟩
theorem Tree.setCells {S : Blocks} {D : Value → List Int → Prop} {t : Nat} {T : Tr} (H : Tree S D t T) {i : Int} {n : Nd} (hn : look T.nodes i = some n) (n' : Nd) (hb : n'.b = n.b) (hk : n'.k = n.k) (hkids : n'.kids = n.kids)
    (hd : D n'.dv n'.data) (hf : ∃ a c, n'.dv = .slice a n'.data.length c) : Tree (upd S n.b (.cells (nodeCells n') 86)) D t (T.setN i n') := by
  have hN := H.at_.node _ (look_mem hn)
  have hfd : n.foot.Nodup := by
    have h1 := (List.nodup_cons.1 (List.nodup_cons.1 H.apart).2).2
    obtain ⟨a, z, hz⟩ := List.append_of_mem (look_mem hn)
    rw [hz, List.flatMap_append, List.flatMap_cons] at h1
    exact (List.nodup_append.1 (List.nodup_append.1 h1).2.1).1
  refine H.setN hn hb hk (fun b x hb2 hnb => upd_other hb2 (fun e => hnb (by rw [e]; exact List.mem_cons_self ..)) _) ⟨by rw [hb]; exact upd_same hN.cells _, fun k2 hk2 => ?_, fun h => by rw [hkids]; exact hN.file (hk ▸ h), hd, hf⟩ (fun q hq => H.good.kids _ (look_mem hn) q (hkids ▸ hq))
  rw [hk] at hk2
  obtain ⟨o, h1, h2⟩ := hN.kid k2 hk2
  refine ⟨o, upd_other h1 (fun e => ?_) _, by rw [hkids]; exact h2⟩
  unfold Nd.foot at hfd
  rw [hk2, e] at hfd
  simp at hfd
end Go.Proofs.YtdjoahhcmkedhaaGreatDoor
end

/- put, take. -/
section
namespace Go.Proofs.YtdjoahhcmkedhaaGreatDoor
open Go.RowKit
open Go.ChangeMaps (setBlock)
set_option linter.unusedVariables false
set_option linter.unusedSimpArgs false
set_option maxRecDepth 100000

def putT (T : Tr) (j : Int) (nd : Nd) (name : ByteArray) (i : Int) (f : Nd) : Tr := (T.setN j { nd with kids := put nd.kids name i }).setN i { f with places := f.places + 1 }
def Done (w0 : World) (S : Blocks) (L : List Rw) (D : Value → List Int → Prop) (t : Nat) (T T' : Tr) (w : World) (r : Value) (e : Ending) (w' : World) : Prop :=
  ∃ S', e = .returned r ∧ Own ⟨w0, S'⟩ w' L ∧ Tree S' D t T' ∧ Frame S S' (t :: T.foot) (t :: T'.foot) w.heap.size
theorem mem_putk {m : List (ByteArray × Int)} {a : ByteArray} {v : Int} {q : ByteArray × Int} (h : q ∈ put m a v) : q = (a, v) ∨ q ∈ m := by
  induction m with
  | nil => unfold put at h; exact .inl (List.mem_singleton.1 h)
  | cons p r ih =>
    unfold put at h
    split at h
    · rcases List.mem_cons.1 h with h | h
      · exact .inl h
      · exact .inr (List.mem_cons_of_mem _ h)
    · rcases List.mem_cons.1 h with h | h
      · exact .inr (h ▸ List.mem_cons_self ..)
      · rcases ih h with h | h
        · exact .inl h
        · exact .inr (List.mem_cons_of_mem _ h)
theorem put_kidsV (kids : List (ByteArray × Int)) (a : ByteArray) (i : Int) : put (kidsV kids) a (.int .i64 i) = kidsV (put kids a i) := by
  unfold kidsV
  induction kids with
  | nil => rfl
  | cons p r ih =>
    simp only [List.map_cons, put]
    split
    · simp
    · rw [ih]; simp
theorem setN_foot {T : Tr} {i : Int} {n n' : Nd} (hn : look T.nodes i = some n) (hb : n'.b = n.b) (hk : n'.k = n.k) : (T.setN i n').foot = T.foot := by
  unfold Tr.foot Tr.setN
  rw [put_flat (fun n : Nd => n.foot) hn (by unfold Nd.foot; rw [hb, hk])]
theorem foot_node {T : Tr} {i : Int} {n : Nd} (hn : look T.nodes i = some n) : n.b ∈ T.foot ∧ ∀ k, n.k = some k → k ∈ T.foot :=
  ⟨foot_mem (look_mem hn) (List.mem_cons_self ..), fun k hk => foot_mem (look_mem hn) (show k ∈ n.foot by unfold Nd.foot; rw [hk]; simp)⟩
set_option maxHeartbeats 1000000 in
theorem put_any {w0 w : World} {S : Blocks} {L : List Rw} {D : Value → List Int → Prop} {t : Nat} {T : Tr} (hO : Own ⟨w0, S⟩ w L) (H : Tree S D t T) {j : Int} {nd : Nd} {k : Nat} (hj : look T.nodes j = some nd) (hk : nd.k = some k) (name : ByteArray)
    {i : Int} {f : Nd} (hi : look T.nodes i = some f) (hf : f.k = none) (hp0 : 0 ≤ f.places) (hp : f.places ≤ 1000000000) :
    Calls Tryz.prog 88 #[.pointer (some ⟨t, 0, none⟩), .agg #[.pointer (some ⟨nd.b, 0, none⟩), .string name], .int .i64 i] w (Done w0 S L D t T (putT T j nd name i f) w (.tuple #[])) := by
  have hij : i ≠ j := fun e => by subst e; rw [hi] at hj; injection hj with hj; subst hj; rw [hf] at hk; cases hk
  have hO1 := hO.alloc (.cells #[.pointer (some ⟨nd.b, 0, none⟩), .string name] 115)
  obtain ⟨w1, hw1⟩ : ∃ w1, w1 = w.alloc (.cells #[.pointer (some ⟨nd.b, 0, none⟩), .string name] 115) := ⟨_, rfl⟩
  have p0 : w1.cell? ⟨w.heap.size, 0, none⟩ = some (.pointer (some ⟨nd.b, 0, none⟩)) := by rw [hw1, World.cell?_alloc_new]; rfl
  have p1 : w1.cell? ⟨w.heap.size, 1, none⟩ = some (.string name) := by rw [hw1, World.cell?_alloc_new]; rfl
  rw [← hw1] at hO1
  have hN := H.at_.node _ (look_mem hj)
  have c0 : w1.cell? ⟨nd.b, 0, none⟩ = some (.map (some k)) := by rw [hO1.cellB hN.cells 0, ← hk]; rfl
  obtain ⟨o, h1, h2⟩ := hN.kid k hk
  obtain ⟨o', hup, hm'⟩ := h2.update (w := w1.drew) kindsS Tryz.underlying84 (hO1.at h1) name (.int .i64 i)
  rw [put_kidsV] at hm'
  have hO2 := (hO1.drew).setB h1 o'
  have H2 := H.setKids hj hk hm' (fun q hq => by
    rcases mem_putk hq with rfl | hq
    · exact ⟨f, hi⟩
    · exact H.good.kids _ (look_mem hj) q hq)
  obtain ⟨w2, hw2⟩ : ∃ w2, w2 = setBlock w1.drew k o' := ⟨_, rfl⟩
  rw [← hw2] at hup hO2
  have hi2 : look (T.setN j { nd with kids := put nd.kids name i }).nodes i = some f := by unfold Tr.setN; rw [look_put, if_neg hij]; exact hi
  have hR := H2.at_.inWorld hO2
  obtain ⟨_, _, d2⟩ := hR.at0
  have hlk := hR.look i
  rw [hi2] at hlk
  dsimp only [ptrOf] at hlk
  have hF := H2.at_.node _ (look_mem hi2)
  have f2 : w2.cell? ⟨f.b, 2, none⟩ = some (.int .i64 f.places) := by rw [hO2.cellB hF.cells 2]; rfl
  have fz : w2.frozen? ⟨f.b, 2, none⟩ = false := free_at (hO2.at hF.cells) 2
  have hO3 := hO2.storeB hF.cells 2 (.int .i64 (f.places + 1))
  have H3 := H2.setCells hi2 { f with places := f.places + 1 } rfl rfl rfl hF.dat hF.form
  have hfr : Frame S (upd (upd S k o') f.b (.cells (nodeCells { f with places := f.places + 1 }) 86)) (t :: T.foot) (t :: (putT T j nd name i f).foot) w.heap.size := by
    have e : (putT T j nd name i f).foot = T.foot := (setN_foot (n' := { f with places := f.places + 1 }) hi2 rfl rfl).trans (setN_foot (n' := { nd with kids := put nd.kids name i }) hj rfl rfl)
    refine ⟨fun b x hb hnb => ?_, fun b hb => .inl (by rwa [e] at hb)⟩
    have q1 := (foot_node hj).2 k hk
    have q2 := (foot_node hi).1
    exact upd_other (upd_other hb (fun e => hnb (by rw [e]; exact List.mem_cons_of_mem _ q1)) _) (fun e => hnb (by rw [e]; exact List.mem_cons_of_mem _ q2)) _
  have HP := Lib.hid (show Done w0 S L D t T (putT T j nd name i f) w (.tuple #[]) (.returned (.tuple #[])) (w2.setCell ⟨f.b, 2, none⟩ (.int .i64 (f.places + 1))) from ⟨_, rfl, hO3, H3, hfr⟩)
  have hwr : IntKind.i64.wrap (f.places + 1) = f.places + 1 := IntWalk.i64_in _ (by omega)
  have hbm := (T.setN j { nd with kids := put nd.kids name i }).bm
  clear hO hO1 hO2 hO3 H H2 H3 hfr hN hF hR h1 h2 hm' hi2 hi hj hk hf
  go_enter Tryz.func88, Tryz.ntmps88
  go_wp2_with fail
  rw [← hw1]
  clear hw1 hw2
  have q0 : w1.drew.cell? ⟨w.heap.size, 0, none⟩ = some (.pointer (some ⟨nd.b, 0, none⟩)) := p0
  go_still_tail 8, (by kernel_rfl)
  repeat still_step
  go_wp2_with fail
  refine bodyPost_end (v := .tuple #[]) ?_ rfl HP.out
  simp [results, Tryz.results88, go_sem]
end Go.Proofs.YtdjoahhcmkedhaaGreatDoor
end

/- take. -/
section
namespace Go.Proofs.YtdjoahhcmkedhaaGreatDoor
open Go.RowKit
open Go.ChangeMaps (setBlock)
set_option linter.unusedVariables false
set_option linter.unusedSimpArgs false
set_option maxRecDepth 100000

theorem NodeIn.look1 {w : World} {D : Value → List Int → Prop} {n : Nd} (H : NodeIn (inW w) D n) {k : Nat} (hk : n.k = some k) (s : ByteArray) :
    (Instr.lookup 84 (.map (some k)) (.string s) false).run Tryz.prog w = .ok (.int .i64 ((Go.Proofs.YtdjoahhcmkedhaaGreatDoor.look n.kids s).getD 0)) w := by
  obtain ⟨o, h1, h2⟩ := H.kid k hk
  have := MapO.lookup kindsS Tryz.underlying84 (zeroInt w) h2 h1 s false
  have e := look_map (fun i : Int => Value.int .i64 i) n.kids s
  rw [show kidsV n.kids = n.kids.map fun p => (p.1, (fun i : Int => Value.int .i64 i) p.2) from rfl, e] at this
  rw [this]
  cases Go.Proofs.YtdjoahhcmkedhaaGreatDoor.look n.kids s <;> rfl
theorem mem_del {β : Type} {m : List (ByteArray × β)} {a : ByteArray} {q : ByteArray × β} (h : q ∈ del m a) : q ∈ m := by
  induction m with
  | nil => exact h
  | cons p r ih =>
    unfold del at h
    split at h
    · exact List.mem_cons_of_mem _ h
    · rcases List.mem_cons.1 h with h | h
      · exact h ▸ List.mem_cons_self ..
      · exact List.mem_cons_of_mem _ (ih h)
theorem del_kidsV (kids : List (ByteArray × Int)) (a : ByteArray) : del (kidsV kids) a = kidsV (del kids a) := by
  unfold kidsV
  induction kids with
  | nil => rfl
  | cons p r ih =>
    simp only [List.map_cons]
    unfold del
    split
    · rfl
    · rw [ih]; simp
def takeT (T : Tr) (j : Int) (nd : Nd) (name : ByteArray) (i : Int) (f : Nd) : Tr := (T.setN i { f with places := f.places - 1 }).setN j { nd with kids := del nd.kids name }
set_option maxHeartbeats 1000000 in
theorem take_any {w0 w : World} {S : Blocks} {L : List Rw} {D : Value → List Int → Prop} {t : Nat} {T : Tr} (hO : Own ⟨w0, S⟩ w L) (H : Tree S D t T) {j : Int} {nd : Nd} {k : Nat} (hj : look T.nodes j = some nd) (hk : nd.k = some k) (name : ByteArray)
    {i : Int} {f : Nd} (hs : look nd.kids name = some i) (hi : look T.nodes i = some f) (hf : f.k = none) (hp0 : 0 ≤ f.places) (hp : f.places ≤ 1000000000) :
    Calls Tryz.prog 89 #[.pointer (some ⟨t, 0, none⟩), .agg #[.pointer (some ⟨nd.b, 0, none⟩), .string name]] w (Done w0 S L D t T (takeT T j nd name i f) w (.tuple #[])) := by
  have hij : j ≠ i := fun e => by subst e; rw [hi] at hj; injection hj with hj; subst hj; rw [hf] at hk; cases hk
  have hO1 := (hO.alloc (.cells #[.pointer (some ⟨nd.b, 0, none⟩), .string name] 115)).drew
  obtain ⟨w1, hw1⟩ : ∃ w1, w1 = w.alloc (.cells #[.pointer (some ⟨nd.b, 0, none⟩), .string name] 115) := ⟨_, rfl⟩
  have p0 : w1.drew.cell? ⟨w.heap.size, 0, none⟩ = some (.pointer (some ⟨nd.b, 0, none⟩)) := by rw [hw1]; show (w.alloc _).cell? _ = _; rw [World.cell?_alloc_new]; rfl
  have p1 : w1.drew.cell? ⟨w.heap.size, 1, none⟩ = some (.string name) := by rw [hw1]; show (w.alloc _).cell? _ = _; rw [World.cell?_alloc_new]; rfl
  rw [← hw1] at hO1
  have hN := H.at_.node _ (look_mem hj)
  have hR := H.at_.inWorld hO1
  obtain ⟨_, _, d2⟩ := hR.at0
  have hNW := hR.node _ (look_mem hj)
  obtain ⟨c0, _, _⟩ := hNW.at0
  rw [hk] at c0
  have hl1 := hNW.look1 hk name
  rw [hs] at hl1
  dsimp only [Option.getD_some] at hl1
  have hl2 := hR.look i
  rw [hi] at hl2
  dsimp only [ptrOf] at hl2
  have hF := H.at_.node _ (look_mem hi)
  have f2 : w1.drew.cell? ⟨f.b, 2, none⟩ = some (.int .i64 f.places) := by rw [hO1.cellB hF.cells 2]; rfl
  have fz : w1.drew.frozen? ⟨f.b, 2, none⟩ = false := free_at (hO1.at hF.cells) 2
  have hwr : IntKind.i64.wrap (f.places - 1) = f.places - 1 := IntWalk.i64_in _ (by omega)
  have hO2 := (hO1.storeB hF.cells 2 (.int .i64 (f.places - 1))).drew
  have H2 := H.setCells hi { f with places := f.places - 1 } rfl rfl rfl hF.dat hF.form
  have hne : w.heap.size ≠ f.b := fun e => by
    have := (hO.atLt hF.cells).2
    exact absurd (e ▸ this) (Nat.lt_irrefl _)
  obtain ⟨w2, hw2⟩ : ∃ w2, w2 = (w1.setCell ⟨f.b, 2, none⟩ (.int .i64 (f.places - 1))).drew := ⟨_, rfl⟩
  have q0 : w2.drew.cell? ⟨w.heap.size, 0, none⟩ = some (.pointer (some ⟨nd.b, 0, none⟩)) := by
    rw [hw2]; show (w1.drew.setCell _ _).cell? _ = _
    rw [World.cell?_setCell_far _ _ _ _ (fun e => hne e.symm)]; exact p0
  have q1 : w2.drew.cell? ⟨w.heap.size, 1, none⟩ = some (.string name) := by
    rw [hw2]; show (w1.drew.setCell _ _).cell? _ = _
    rw [World.cell?_setCell_far _ _ _ _ (fun e => hne e.symm)]; exact p1
  have hO2 : Own ⟨w0, upd S f.b (.cells (nodeCells { f with places := f.places - 1 }) 86)⟩ w2.drew L := by rw [hw2]; exact hO2
  have hj2 : look (T.setN i { f with places := f.places - 1 }).nodes j = some nd := by unfold Tr.setN; rw [look_put, if_neg hij]; exact hj
  have hN2 := H2.at_.node _ (look_mem hj2)
  have hNW2 := (H2.at_.inWorld hO2).node _ (look_mem hj2)
  obtain ⟨c02, _, _⟩ := hNW2.at0
  rw [hk] at c02
  obtain ⟨o, h1, h2⟩ := hN2.kid k hk
  obtain ⟨o', hdel, hm'⟩ := h2.delete (w := w2.drew) kindsS Tryz.underlying84 (hO2.at h1) name 0
  rw [del_kidsV] at hm'
  have H3 := H2.setKids hj2 hk hm' (fun q hq => H2.good.kids _ (look_mem hj2) q (mem_del hq))
  have hO3 := hO2.setB h1 o'
  have hfr : Frame S (upd (upd S f.b (.cells (nodeCells { f with places := f.places - 1 }) 86)) k o') (t :: T.foot) (t :: (takeT T j nd name i f).foot) w.heap.size := by
    have e : (takeT T j nd name i f).foot = T.foot := (setN_foot (n' := { nd with kids := del nd.kids name }) hj2 rfl rfl).trans (setN_foot (n' := { f with places := f.places - 1 }) hi rfl rfl)
    refine ⟨fun b x hb hnb => ?_, fun b hb => .inl (by rwa [e] at hb)⟩
    have r1 := (foot_node hj).2 k hk
    have r2 := (foot_node hi).1
    exact upd_other (upd_other hb (fun e => hnb (by rw [e]; exact List.mem_cons_of_mem _ r2)) _) (fun e => hnb (by rw [e]; exact List.mem_cons_of_mem _ r1)) _
  have HP := Lib.hid (show Done w0 S L D t T (takeT T j nd name i f) w (.tuple #[]) (.returned (.tuple #[])) (setBlock w2.drew k o') from ⟨_, rfl, hO3, H3, hfr⟩)
  clear hO hO1 hO2 hO3 H H2 H3 hfr hN hN2 hNW hNW2 hF hR h1 h2 hm' hi hj hj2 hk hf hs hne hij
  go_enter Tryz.func89, Tryz.ntmps89
  go_wp2_with fail
  rw [← hw1]
  clear hw1
  go_still_tail 19, (by kernel_rfl)
  go_wp2_with fail
  rw [← hw2]
  clear hw2
  go_still_tail 7, (by kernel_rfl)
  go_wp2_with fail
  trace_state
  refine bodyPost_end (v := .tuple #[]) ?_ rfl HP.out
  simp [results, Tryz.results89, go_sem]
end Go.Proofs.YtdjoahhcmkedhaaGreatDoor
end
