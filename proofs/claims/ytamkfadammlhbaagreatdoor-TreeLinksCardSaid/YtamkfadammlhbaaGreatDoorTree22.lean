/- A tree as plain data: numbers, names, bytes. -/
import Derived.Test.YtamkfadammlhbaaGreatDoorTree21
namespace Go.Proofs.YtamkfadammlhbaaGreatDoor
open Go.RowKit
open Go.ChangeMaps (setBlock)
set_option linter.unusedVariables false
set_option linter.unusedSimpArgs false
set_option maxRecDepth 100000

structure Et where
  quota : Int
  next : Int
  nodes : List (Int × ENd)
structure Rep (T : Tr) (E : Et) : Prop where
  quota : T.quota = E.quota
  next : T.next = E.next
  nodes : (erL T.nodes).Perm E.nodes
section
variable {α β : Type} [DecidableEq α]
theorem look_some_mem {m : List (α × β)} (hd : (m.map (·.1)).Nodup) {a : α} {v : β} : look m a = some v ↔ (a, v) ∈ m :=
  ⟨look_mem, fun h => look_of_mem hd h⟩
theorem look_perm {m m' : List (α × β)} (h : m.Perm m') (hd : (m.map (·.1)).Nodup) (a : α) : look m a = look m' a := by
  have hd' : (m'.map (·.1)).Nodup := (h.map (·.1)).nodup_iff.1 hd
  cases h1 : look m a with
  | some v => exact ((look_some_mem hd').2 (h.subset (look_mem h1))).symm
  | none =>
    cases h2 : look m' a with
    | none => rfl
    | some v =>
      have := (look_some_mem hd).2 (h.symm.subset (look_mem h2))
      rw [h1] at this; cases this
theorem put_filter {m : List (α × β)} (hd : (m.map (·.1)).Nodup) (a : α) (v : β) : (put m a v).Perm ((a, v) :: m.filter fun p => decide (p.1 ≠ a)) := by
  induction m with
  | nil => exact List.Perm.refl _
  | cons p r ih =>
    rw [List.map_cons, List.nodup_cons] at hd
    unfold put
    by_cases h : p.1 = a
    · rw [if_pos h, List.filter_cons_of_neg (by simp [h])]
      have : r.filter (fun p => decide (p.1 ≠ a)) = r := List.filter_eq_self.2 fun q hq => by
        have : q.1 ≠ a := fun e => hd.1 (List.mem_map.2 ⟨q, hq, e.trans h.symm⟩)
        simpa using this
      rw [this]
    · rw [if_neg h, List.filter_cons_of_pos (by simp [h])]
      exact ((ih hd.2).cons p).trans (List.Perm.swap _ _ _)
theorem put_perm {m m' : List (α × β)} (h : m.Perm m') (hd : (m.map (·.1)).Nodup) (a : α) (v : β) : (put m a v).Perm (put m' a v) :=
  (put_filter hd a v).trans (((h.filter _).cons (a, v)).trans (put_filter ((h.map (·.1)).nodup_iff.1 hd) a v).symm)
theorem put_nodup {m : List (α × β)} (hd : (m.map (·.1)).Nodup) (a : α) (v : β) : ((put m a v).map (·.1)).Nodup := by
  have h := (put_filter hd a v).map (·.1)
  refine h.nodup_iff.2 ?_
  rw [List.map_cons, List.nodup_cons]
  refine ⟨fun hm => ?_, hd.sublist (List.filter_sublist.map _)⟩
  obtain ⟨q, hq, e⟩ := List.mem_map.1 hm
  have := (List.mem_filter.1 hq).2
  simp [e] at this
end
theorem erL_put (m : List (Int × Nd)) (i : Int) (n : Nd) : erL (put m i n) = put (erL m) i n.er := by
  unfold erL
  induction m with
  | nil => rfl
  | cons p r ih =>
    simp only [List.map_cons]
    unfold put
    split
    · rfl
    · rw [← ih]; simp
theorem Rep.look {T : Tr} {E : Et} (h : Rep T E) (hd : (T.nodes.map (·.1)).Nodup) (i : Int) : (Go.Proofs.YtamkfadammlhbaaGreatDoor.look T.nodes i).map Nd.er = Go.Proofs.YtamkfadammlhbaaGreatDoor.look E.nodes i := by
  rw [← look_perm h.nodes (by rw [erL_keys]; exact hd) i]
  exact (look_map Nd.er T.nodes i).symm
theorem Rep.setN {T : Tr} {E : Et} (h : Rep T E) (hd : (T.nodes.map (·.1)).Nodup) (i : Int) (n : Nd) : Rep (T.setN i n) { E with nodes := put E.nodes i n.er } :=
  ⟨h.quota, h.next, by
    show (erL (put T.nodes i n)).Perm _
    rw [erL_put]
    exact put_perm h.nodes (by rw [erL_keys]; exact hd) i n.er⟩
theorem setN_nodup {T : Tr} (hd : (T.nodes.map (·.1)).Nodup) (i : Int) (n : Nd) : ((T.setN i n).nodes.map (·.1)).Nodup := put_nodup hd i n
theorem Rep.same {T T' : Tr} {E : Et} (h : Rep T E) (k : Same T T') : Rep T' E := ⟨k.quota.trans h.quota, k.next.trans h.next, k.nodes.trans h.nodes⟩
theorem Rep.count {T : Tr} {E : Et} (h : Rep T E) : T.nodes.length = E.nodes.length := by
  have := h.nodes.length_eq
  unfold erL at this
  simpa using this
def sumE (l : List (Int × ENd)) : Nat := (l.map fun p => p.2.data.length).sum
theorem Rep.sum {T : Tr} {E : Et} (h : Rep T E) : sumT T.nodes = sumE E.nodes := by
  have := (h.nodes.map fun p => p.2.data.length).sum_nat
  unfold erL at this
  rw [List.map_map] at this
  exact this
/-! ### Where things stand -/
def walkE (E : Et) (i : Int) : List (List UInt8) → Option Int
  | [] => some i
  | n :: r => match look E.nodes i with
    | none => none
    | some nd => match look nd.kids (toB n) with
      | none => none
      | some j => walkE E j r
theorem Rep.walk {T : Tr} {E : Et} (h : Rep T E) (hd : (T.nodes.map (·.1)).Nodup) (a : List (List UInt8)) : ∀ i, walkT T i a = walkE E i a := by
  induction a with
  | nil => intro i; rfl
  | cons x r ih =>
    intro i
    unfold walkT walkE
    rw [← h.look hd i]
    cases h1 : Go.Proofs.YtamkfadammlhbaaGreatDoor.look T.nodes i with
    | none => rfl
    | some nd =>
      show (match Go.Proofs.YtamkfadammlhbaaGreatDoor.look nd.kids (toB x) with | none => none | some j => walkT T j r) = (match Go.Proofs.YtamkfadammlhbaaGreatDoor.look nd.kids (toB x) with | none => none | some j => walkE E j r)
      cases Go.Proofs.YtamkfadammlhbaaGreatDoor.look nd.kids (toB x) with
      | none => rfl
      | some j => exact ih j
def placeE (E : Et) (l : List UInt8) : Int × Option (Int × ENd × List UInt8) := match (namesL l).getLast? with
  | none => (14, none)
  | some z => match walkE E 1 (namesL l).dropLast with
    | none => (8, none)
    | some j => match look E.nodes j with
      | none => (8, none)
      | some nd => if nd.dir then (0, some (j, nd, z)) else (11, none)
theorem Rep.place {T : Tr} {E : Et} (h : Rep T E) (hd : (T.nodes.map (·.1)).Nodup) {l : List UInt8} {j : Int} {en : ENd} {z : List UInt8} (hp : placeE E l = (0, some (j, en, z))) : ∃ nd k, placeT T l = (0, some (j, nd, z)) ∧ At T j nd k ∧ nd.er = en := by
  unfold placeE at hp
  unfold placeT
  cases h1 : (namesL l).getLast? with
  | none => rw [h1] at hp; cases hp
  | some z2 =>
    rw [h1] at hp
    rw [h.walk hd]
    simp only at hp ⊢
    cases h2 : walkE E 1 (namesL l).dropLast with
    | none => rw [h2] at hp; cases hp
    | some j2 =>
      rw [h2] at hp
      simp only at hp ⊢
      have hl := h.look hd j2
      cases h3 : Go.Proofs.YtamkfadammlhbaaGreatDoor.look T.nodes j2 with
      | none => rw [h3] at hl; rw [← hl] at hp; cases hp
      | some nd =>
        rw [h3] at hl
        rw [← hl] at hp
        simp only [Option.map_some] at hp ⊢
        have e : nd.er.dir = nd.k.isSome := rfl
        rw [e] at hp
        cases h4 : nd.k with
        | none => rw [h4] at hp; simp at hp
        | some k =>
          rw [h4] at hp
          simp only [Option.isSome_some, if_true, Prod.mk.injEq, Option.some.injEq, true_and] at hp
          obtain ⟨rfl, rfl, rfl⟩ := hp
          exact ⟨nd, k, by simp, ⟨h3, h4⟩, rfl⟩
end Go.Proofs.YtamkfadammlhbaaGreatDoor
