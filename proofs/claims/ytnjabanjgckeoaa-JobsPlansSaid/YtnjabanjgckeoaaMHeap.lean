/- Blocks that the law has made, each as it is: what a store into one, a new one, and a map's iterator make of them. Of no program. -/
import Derived.Test.YtnjabanjgckeoaaMList
namespace Go.Proofs.Ytnjabanjgckeoaa
open Go.RowKit
open Go.ChangeMaps (setBlock)
set_option linter.unusedVariables false
set_option linter.unusedSimpArgs false
set_option linter.unusedSectionVars false

abbrev Blocks := List (Nat × Obj)
def upd (S : Blocks) (b : Nat) (o : Obj) : Blocks := S.map fun m => if m.1 = b then (b, o) else m
theorem upd_keys (S : Blocks) (b : Nat) (o : Obj) : (upd S b o).map (·.1) = S.map (·.1) := by
  unfold upd
  rw [List.map_map]
  apply List.map_congr_left
  intro m _
  simp only [Function.comp]
  split
  · rename_i h; exact h.symm
  · rfl
theorem upd_same {S : Blocks} {b : Nat} {o : Obj} (h : (b, o) ∈ S) (o' : Obj) : (b, o') ∈ upd S b o' := by
  unfold upd
  exact List.mem_map.2 ⟨(b, o), h, by simp⟩
theorem upd_other {S : Blocks} {b c : Nat} {x : Obj} (h : (c, x) ∈ S) (hc : c ≠ b) (o' : Obj) : (c, x) ∈ upd S b o' := by
  unfold upd
  exact List.mem_map.2 ⟨(c, x), h, by simp [hc]⟩
theorem setBlock_heap (w : World) (b : Nat) (o : Obj) (hb : b < w.heap.size) : (setBlock w b o).heap[b]? = some o ∧ (∀ c, c ≠ b → (setBlock w b o).heap[c]? = w.heap[c]?) ∧ (setBlock w b o).heap.size = w.heap.size := by
  refine ⟨by simp [setBlock, hb], fun c hc => by simp [setBlock, Ne.symm hc], by simp [setBlock]⟩
theorem grown_setBlock (w : World) (b : Nat) (o : Obj) : w.grownBy (setBlock w b o) (some b) :=
  ⟨rfl, rfl, rfl, by simp [setBlock], fun c _ hne => by
    have hbc : b ≠ c := fun e => hne (by rw [e])
    simp [setBlock, hbc]⟩

section
variable {w0 w : World} {S : Blocks} {L : List Rw} {b : Nat} {o : Obj}
theorem Own.at (h : Own ⟨w0, S⟩ w L) (hb : (b, o) ∈ S) : w.heap[b]? = some o := (h.maps _ hb).2
theorem Own.atLt (h : Own ⟨w0, S⟩ w L) (hb : (b, o) ∈ S) : w0.heap.size ≤ b ∧ b < w.heap.size := ⟨(h.maps _ hb).1, lt_of_heap (h.maps _ hb).2⟩
theorem Own.uniq (h : Own ⟨w0, S⟩ w L) {o' : Obj} (hb : (b, o) ∈ S) (hb' : (b, o') ∈ S) : o = o' := Option.some.inj ((h.at hb).symm.trans (h.at hb'))
theorem Own.setB (h : Own ⟨w0, S⟩ w L) (hb : (b, o) ∈ S) (o' : Obj) : Own ⟨w0, upd S b o'⟩ (setBlock w b o') L := by
  have hlt := (h.atLt hb).2
  obtain ⟨s1, s2, s3⟩ := setBlock_heap w b o' hlt
  have hg := grown_setBlock w b o'
  refine ⟨h.below.grown hg h.size (fun k hk => by cases hk; exact (h.maps _ hb).1), fun p hp => ?_, h.apart, fun m hm => ?_, fun m hm p hp => ?_⟩
  · refine (h.rows p hp).kept hg ?_
    by_cases hpn : p.v.ownBlock = none
    · exact .inl hpn
    · exact .inr (h.offmaps _ hb p hp)
  · obtain ⟨m1, hm1, rfl⟩ := List.mem_map.1 hm
    split
    · exact ⟨(h.maps _ hb).1, s1⟩
    · rename_i hne
      exact ⟨(h.maps m1 hm1).1, (s2 _ hne).trans (h.maps m1 hm1).2⟩
  · obtain ⟨m1, hm1, rfl⟩ := List.mem_map.1 hm
    split
    · exact h.offmaps _ hb p hp
    · exact h.offmaps m1 hm1 p hp
theorem Own.newB (h : Own ⟨w0, S⟩ w L) (o : Obj) : Own ⟨w0, (w.heap.size, o) :: S⟩ (w.alloc o) L := by
  have h1 := h.alloc o
  refine ⟨h1.below, h1.rows, h1.apart, fun m hm => ?_, fun m hm p hp => ?_⟩
  · rcases List.mem_cons.1 hm with rfl | hm
    · exact ⟨h.size, (MapKept.heap_alloc w _).1⟩
    · exact h1.maps m hm
  · rcases List.mem_cons.1 hm with rfl | hm
    · intro e
      have := (h.lt hp e).2
      exact absurd this (Nat.lt_irrefl _)
    · exact h1.offmaps m hm p hp
theorem Own.forget {S' : Blocks} (h : Own ⟨w0, S⟩ w L) (hs : ∀ m ∈ S', m ∈ S) : Own ⟨w0, S'⟩ w L :=
  ⟨h.below, h.rows, h.apart, fun m hm => h.maps m (hs m hm), fun m hm => h.offmaps m (hs m hm)⟩
theorem Own.cellB {c : Array Value} {T : TypeId} (h : Own ⟨w0, S⟩ w L) (hb : (b, .cells c T) ∈ S) (j : Nat) : w.cell? ⟨b, j, none⟩ = c[j]? := by
  have := h.at hb
  unfold World.cell?
  rw [this]; rfl
theorem cell_at {w : World} {c : Array Value} {T : TypeId} (h : w.heap[b]? = some (.cells c T)) (j : Nat) : w.cell? ⟨b, j, none⟩ = c[j]? := by
  unfold World.cell?
  rw [h]; rfl
theorem free_at {w : World} {c : Array Value} {T : TypeId} (h : w.heap[b]? = some (.cells c T)) (j : Nat) : w.frozen? ⟨b, j, none⟩ = false := by
  unfold World.frozen?
  rw [h]
  simp
theorem set_at {w : World} {c : Array Value} {T : TypeId} (h : w.heap[b]? = some (.cells c T)) (j : Nat) (v : Value) : w.setCell ⟨b, j, none⟩ v = setBlock w b (.cells (c.setIfInBounds j v) T) := by
  unfold World.setCell
  have hlt := lt_of_heap h
  simp only [setBlock, World.mk.injEq, true_and, and_true]
  apply Array.ext_getElem?
  intro i
  rw [Array.getElem?_modify, Array.getElem?_setIfInBounds]
  by_cases hi : b = i
  · subst hi
    rw [if_pos rfl, if_pos rfl, if_pos hlt, h]; rfl
  · rw [if_neg hi, if_neg hi]
theorem Own.storeB {c : Array Value} {T : TypeId} (h : Own ⟨w0, S⟩ w L) (hb : (b, .cells c T) ∈ S) (j : Nat) (v : Value) : Own ⟨w0, upd S b (.cells (c.setIfInBounds j v) T)⟩ (w.setCell ⟨b, j, none⟩ v) L := by
  rw [set_at (h.at hb)]
  exact h.setB hb _
end

/-! ### A map that is gone through -/
section
variable {P : Program} {α : Type} [DecidableEq α] {K : α → Value}
/-- The iterator 'oi' over the map 'o' at block b; these are still to come. -/
def IterO (K : α → Value) (oi : Obj) (b : Nat) (o : Obj) (m left : List (α × Value)) : Prop :=
  ∃ es clock since seen c0, o = .map es clock ∧ oi = .mapIter (some b) since seen c0 ∧ es.toList.map (fun e => (e.key, e.val)) = m.map (fun p => (K p.1, p.2)) ∧ (es.toList.map (·.born)).Nodup ∧ (∀ e ∈ es.toList, e.born < clock) ∧
    (∀ e ∈ es.toList, e.born < since) ∧ since ≤ c0 ∧ since ≤ clock ∧ (leftOf es seen).toList.map (fun e => (e.key, e.val)) = left.map (fun p => (K p.1, p.2))
theorem MapO.range {w : World} {b : Nat} {o : Obj} {mt kt et : TypeId} {m : List (α × Value)} (hm : P.underlying mt = some (.map kt et)) (h : MapO K o m) (hb : w.heap[b]? = some o) :
    ∃ oi, (Instr.range mt (.map (some b))).run P w = .ok (.pointer (some ⟨w.heap.size, 0, none⟩)) (w.alloc oi) ∧ IterO K oi b o m m := by
  obtain ⟨es, clock, rfl, h1, h2, h3⟩ := h
  refine ⟨.mapIter (some b) clock #[] clock, run_range_map w mt kt et b es clock hm hb, es, clock, clock, #[], clock, rfl, rfl, h1, h2, h3, h3, Nat.le_refl _, Nat.le_refl _, ?_⟩
  have : leftOf es #[] = es := by simp [leftOf]
  rw [this]; exact h1
theorem map_split {β γ : Type} (f : β → γ) (l : List β) (x : List γ) (y : γ) (z : List γ) (h : l.map f = x ++ y :: z) : ∃ a p c, l = a ++ p :: c ∧ a.map f = x ∧ f p = y ∧ c.map f = z := by
  obtain ⟨a, r, e1, e2, e3⟩ := List.map_eq_append_iff.1 h
  cases r with
  | nil => simp at e3
  | cons p c =>
    simp only [List.map_cons, List.cons.injEq] at e3
    exact ⟨a, p, c, e1, e2, e3.1, e3.2⟩
theorem IterO.next {w : World} {b r : Nat} {o oi : Obj} {m left : List (α × Value)} (ty : TypeId) (h : IterO K oi b o m left) (hr : w.heap[r]? = some oi) (hb : w.heap[b]? = some o) :
    (left = [] ∧ (Instr.next (.pointer (some ⟨r, 0, none⟩)) false ty).run P w = .ok (.tuple #[.bool false]) w) ∨
    ∃ l1 p l2 w1 oi', left = l1 ++ p :: l2 ∧ (w1 = w ∨ w1 = w.drew) ∧ (Instr.next (.pointer (some ⟨r, 0, none⟩)) false ty).run P w = .ok (.tuple #[.bool true, K p.1, p.2]) (setBlock w1 r oi') ∧ IterO K oi' b o m (l1 ++ l2) ∧
      (∀ u : World, u.heap[r]? = some oi' → u.heap[b]? = some o → (Instr.entry (.pointer (some ⟨r, 0, none⟩))).run P u = .ok (.tuple #[K p.1, p.2]) u) := by
  obtain ⟨es, clock, since, seen, c0, rfl, rfl, h1, h2, h3, h4, h5, h6, h7⟩ := h
  rcases run_next_at (P := P) w ty r b since c0 seen es clock hr hb h4 h5 with ⟨g1, g2⟩ | ⟨e, he, w1, hw1, g2⟩
  · left
    refine ⟨?_, g2⟩
    have : (leftOf es seen).toList = [] := by
      apply List.eq_nil_of_length_eq_zero; simpa using g1
    rw [this] at h7
    exact List.map_eq_nil_iff.1 h7.symm
  · right
    obtain ⟨x, z, hxz⟩ := List.append_of_mem he
    rw [hxz, List.map_append, List.map_cons] at h7
    obtain ⟨a, p, c, e1, e2, e3, e4⟩ := map_split _ left _ _ _ h7.symm
    have e5 : e.key = K p.1 ∧ e.val = p.2 := by
      have := e3
      simp only [Prod.mk.injEq] at this
      exact ⟨this.1.symm, this.2.symm⟩
    have hmem : e ∈ es.toList := by
      have : e ∈ leftOf es seen := by simpa using he
      unfold leftOf at this
      simp at this ⊢
      exact this.1
    have hnd : ∀ y ∈ (x ++ z), y.born ≠ e.born := by
      have hsub : (leftOf es seen).toList.Sublist es.toList := by unfold leftOf; simp
      have hn := h2.sublist (hsub.map (·.born))
      rw [hxz, List.map_append, List.map_cons] at hn
      intro y hy e6
      have hn' := (List.perm_middle.nodup_iff).1 hn
      rw [List.nodup_cons, ← List.map_append] at hn'
      exact hn'.1 (List.mem_map.2 ⟨y, hy, e6⟩)
    have hl : (leftOf es (seen.push e.born)).toList = x ++ z := by
      have : leftOf es (seen.push e.born) = (leftOf es seen).filter fun y => !(y.born == e.born) := by
        unfold leftOf
        rw [Array.filter_filter]
        congr 1
        funext y
        simp only [Array.contains_push, Bool.not_or]
        cases h9 : (y.born == e.born) <;> cases h10 : seen.contains y.born <;> simp_all
        all_goals (try (have := h9; simp [eq_comm] at this ⊢; exact this))
      rw [this, Array.toList_filter, hxz, List.filter_append, List.filter_cons]
      have f1 : x.filter (fun y => !(y.born == e.born)) = x := List.filter_eq_self.2 fun y hy => by simp [hnd y (List.mem_append_left _ hy)]
      have f2 : z.filter (fun y => !(y.born == e.born)) = z := List.filter_eq_self.2 fun y hy => by simp [hnd y (List.mem_append_right _ hy)]
      rw [f1, f2]; simp
    refine ⟨a, p, c, w1, .mapIter (some b) since (seen.push e.born) clock, e1, hw1, by rw [g2, e5.1, e5.2], ⟨es, clock, since, _, clock, rfl, rfl, h1, h2, h3, h4, h6, h6, ?_⟩, fun u hu hub => ?_⟩
    · rw [hl, List.map_append, List.map_append, e2, e4]
    · rw [run_entry_at (P := P) u r b since seen es clock e hu hub hmem h2, e5.1, e5.2]
end
end Go.Proofs.Ytnjabanjgckeoaa
