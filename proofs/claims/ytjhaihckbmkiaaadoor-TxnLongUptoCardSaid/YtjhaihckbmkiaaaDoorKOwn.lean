/- Rows that a call has made and owns, several at once, no two in one block; what was there before the call is as it was. Of whatever element size. General: over any program. -/
import Derived.WalkKit
import Derived.OwnWalk
import Derived.Below
import Derived.IntWalk
import Derived.Maps.AppendAt
import Derived.Laws.OwnMore
import Derived.Laws.AppendOwnNone
import Derived.Deep.RegionLaw
import Derived.Deep.MidRow
import Derived.StillTailTactics
import Derived.Laws.Tables
namespace Go.Proofs.YtjhaihckbmkiaaaDoor
open Go.RowKit
set_option linter.unusedVariables false
set_option linter.unusedSimpArgs false

/-- A row: its element's type and number of cells, the slice value, its length, its cells. -/
structure Rw where
  e : TypeId
  size : Nat
  v : Value
  n : Nat
  xs : List Value

/-- What there was ahead of the call, and the maps that the law has made since, each as it is now: none of these is turned by a call. -/
structure Base where
  world : World
  maps : List (Nat × Obj)
instance : Coe World Base := ⟨fun w => ⟨w, []⟩⟩

structure Own (W0 : Base) (w : World) (L : List Rw) : Prop where
  below : Below W0.world.heap.size W0.world w
  rows : ∀ p ∈ L, w.ownsRow W0.world.heap.size p.e p.size p.v p.n p.xs
  apart : L.Pairwise fun p q => p.v.ownBlock = none ∨ p.v.ownBlock ≠ q.v.ownBlock
  maps : ∀ m ∈ W0.maps, W0.world.heap.size ≤ m.1 ∧ w.heap[m.1]? = some m.2
  offmaps : ∀ m ∈ W0.maps, ∀ p ∈ L, p.v.ownBlock ≠ some m.1

theorem lt_of_heap {w : World} {k : Nat} {o : Obj} (h : w.heap[k]? = some o) : k < w.heap.size := by
  rcases Nat.lt_or_ge k w.heap.size with h1 | h1
  · exact h1
  · rw [Array.getElem?_eq_none h1] at h; cases h
theorem Own.start (w : World) : Own w w [] := ⟨Below.refl _ _, (fun p hp => by cases hp), List.Pairwise.nil, (fun m hm => by cases hm), (fun m hm => by cases hm)⟩
theorem Own.of_below {W0 w : World} (h : Below W0.heap.size W0 w) : Own W0 w [] := ⟨h, (fun p hp => by cases hp), List.Pairwise.nil, (fun m hm => by cases hm), (fun m hm => by cases hm)⟩
theorem Own.size {W0 : Base} {w : World} {L : List Rw} (h : Own W0 w L) : W0.world.heap.size ≤ w.heap.size := h.below.size
theorem Own.lt {W0 : Base} {w : World} {L : List Rw} (h : Own W0 w L) {p : Rw} (hp : p ∈ L) {k : Nat} (hk : p.v.ownBlock = some k) : W0.world.heap.size ≤ k ∧ k < w.heap.size := (h.rows p hp).lt k hk
theorem Own.drew {W0 : Base} {w : World} {L : List Rw} (h : Own W0 w L) : Own W0 w.drew L := ⟨h.below.drew, fun p hp => (h.rows p hp).drew, h.apart, h.maps, h.offmaps⟩
theorem Own.alloc {W0 : Base} {w : World} {L : List Rw} (h : Own W0 w L) (o : Obj) : Own W0 (w.alloc o) L :=
  ⟨h.below.alloc h.size o, fun p hp => (h.rows p hp).alloc o, h.apart, fun m hm => ⟨(h.maps m hm).1, (Below.heap_alloc _ _ _ (lt_of_heap (h.maps m hm).2)).trans (h.maps m hm).2⟩, h.offmaps⟩
theorem Own.perm {W0 : Base} {w : World} {L L' : List Rw} (h : Own W0 w L) (hp : L.Perm L') : Own W0 w L' := by
  refine ⟨h.below, fun r hr => h.rows r (hp.mem_iff.2 hr), hp.pairwise h.apart ?_, h.maps, fun m hm r hr => h.offmaps m hm r (hp.mem_iff.2 hr)⟩
  intro a b hab
  by_cases hb : b.v.ownBlock = none
  · exact .inl hb
  · rcases hab with hab | hab
    · exact .inr fun e => hb (e.trans hab)
    · exact .inr fun e => hab e.symm
theorem Own.swap {W0 : Base} {w : World} {p q : Rw} {L : List Rw} (h : Own W0 w (p :: q :: L)) : Own W0 w (q :: p :: L) := h.perm (List.Perm.swap q p L)
theorem Own.third {W0 : Base} {w : World} {p q r : Rw} {L : List Rw} (h : Own W0 w (p :: q :: r :: L)) : Own W0 w (r :: p :: q :: L) := h.perm (((List.Perm.swap r q L).cons p).trans (List.Perm.swap r p (q :: L)))
theorem Own.unthird {W0 : Base} {w : World} {p q r : Rw} {L : List Rw} (h : Own W0 w (r :: p :: q :: L)) : Own W0 w (p :: q :: r :: L) := h.perm ((List.Perm.swap p r (q :: L)).trans ((List.Perm.swap q r L).cons p))
theorem Own.fourth {W0 : Base} {w : World} {p q r s : Rw} {L : List Rw} (h : Own W0 w (p :: q :: r :: s :: L)) : Own W0 w (s :: p :: q :: r :: L) :=
  h.perm ((((List.Perm.swap s r L).cons q).trans (List.Perm.swap s q (r :: L))).cons p |>.trans (List.Perm.swap s p (q :: r :: L)))
theorem Own.unfourth {W0 : Base} {w : World} {p q r s : Rw} {L : List Rw} (h : Own W0 w (s :: p :: q :: r :: L)) : Own W0 w (p :: q :: r :: s :: L) :=
  h.perm ((((List.Perm.swap s r L).cons q).trans (List.Perm.swap s q (r :: L))).cons p |>.trans (List.Perm.swap s p (q :: r :: L))).symm
theorem Own.fifth {W0 : Base} {w : World} {p q r s t : Rw} {L : List Rw} (h : Own W0 w (p :: q :: r :: s :: t :: L)) : Own W0 w (t :: p :: q :: r :: s :: L) :=
  h.perm (((((List.Perm.swap t s L).cons r).trans (List.Perm.swap t r (s :: L))).cons q |>.trans (List.Perm.swap t q (r :: s :: L))).cons p |>.trans (List.Perm.swap t p (q :: r :: s :: L)))
theorem Own.unfifth {W0 : Base} {w : World} {p q r s t : Rw} {L : List Rw} (h : Own W0 w (t :: p :: q :: r :: s :: L)) : Own W0 w (p :: q :: r :: s :: t :: L) :=
  h.perm (((((List.Perm.swap t s L).cons r).trans (List.Perm.swap t r (s :: L))).cons q |>.trans (List.Perm.swap t q (r :: s :: L))).cons p |>.trans (List.Perm.swap t p (q :: r :: s :: L))).symm
theorem Own.tail {W0 : Base} {w : World} {p : Rw} {L : List Rw} (h : Own W0 w (p :: L)) : Own W0 w L :=
  ⟨h.below, fun r hr => h.rows r (List.mem_cons_of_mem _ hr), (List.pairwise_cons.1 h.apart).2, h.maps, fun m hm r hr => h.offmaps m hm r (List.mem_cons_of_mem _ hr)⟩
theorem Own.head {W0 : Base} {w : World} {p : Rw} {L : List Rw} (h : Own W0 w (p :: L)) : w.ownsRow W0.world.heap.size p.e p.size p.v p.n p.xs := h.rows _ (List.mem_cons_self ..)
theorem Own.nil {W0 : Base} {w : World} {L : List Rw} (h : Own W0 w L) (e size : Nat) : Own W0 w (⟨e, size, .slice none 0 0, 0, []⟩ :: L) := by
  refine ⟨h.below, fun p hp => ?_, List.pairwise_cons.2 ⟨fun q hq => .inl rfl, h.apart⟩, h.maps, fun m hm p hp => by
    rcases List.mem_cons.1 hp with rfl | hp
    · exact fun e => by cases e
    · exact h.offmaps m hm p hp⟩
  rcases List.mem_cons.1 hp with rfl | hp
  · exact World.ownsRow_nil _ _ _ _
  · exact h.rows p hp
theorem Own.made {W0 : Base} {w : World} {L : List Rw} (h : Own W0 w L) (e size : Nat) (cs : Array Value) (n : Nat) (hn : cs.size = n * size) (hm : n ≤ maxLen) :
    Own W0 (w.alloc (.cells cs e)) (⟨e, size, .slice (some ⟨w.heap.size, 0, none⟩) n n, n, cs.toList⟩ :: L) := by
  refine ⟨(h.alloc _).below, fun p hp => ?_, List.pairwise_cons.2 ⟨fun q hq => ?_, h.apart⟩, (h.alloc _).maps, fun m hm p hp => ?_⟩
  · rcases List.mem_cons.1 hp with rfl | hp
    · exact World.ownsRow_lit w cs n h.size hm hn
    · exact (h.alloc _).rows p hp
  · right
    intro e'
    have := (h.lt hq (k := w.heap.size) e'.symm).2
    omega
  · rcases List.mem_cons.1 hp with rfl | hp
    · intro e'
      have e2 : some w.heap.size = some m.1 := e'
      injection e2 with e2
      have := lt_of_heap (h.maps m hm).2
      omega
    · exact h.offmaps m hm p hp
theorem Own.made_at {W0 : Base} {w : World} {L : List Rw} (h : Own W0 w L) (e size : Nat) (cs : Array Value) (n H : Nat) (hH : H = w.heap.size) (hn : cs.size = n * size) (hm : n ≤ maxLen) :
    Own W0 (w.alloc (.cells cs e)) (⟨e, size, .slice (some ⟨H, 0, none⟩) n n, n, cs.toList⟩ :: L) := hH ▸ h.made e size cs n hn hm
theorem Own.grown {W0 : Base} {w w' : World} {e size n n' : Nat} {v v' : Value} {xs ys : List Value} {L : List Rw} (h : Own W0 w (⟨e, size, v, n, xs⟩ :: L)) (hown : w'.ownsRow W0.world.heap.size e size v' n' ys) (hgrow : w.grownBy w' v.ownBlock)
    (hat : v'.ownBlock = v.ownBlock ∨ v'.ownBlock = some w.heap.size) : Own W0 w' (⟨e, size, v', n', ys⟩ :: L) := by
  have hap := List.pairwise_cons.1 h.apart
  have hother : ∀ q ∈ L, v'.ownBlock = none ∨ v'.ownBlock ≠ q.v.ownBlock := by
    intro q hq
    rcases hat with h1 | h1
    · rw [h1]; exact hap.1 q hq
    · right
      intro e'
      have := (h.lt (List.mem_cons_of_mem _ hq) (k := w.heap.size) (by rw [← e', h1])).2
      omega
  refine ⟨h.below.grown hgrow h.size fun k hk => (h.lt (List.mem_cons_self ..) hk).1, fun p hp => ?_, List.pairwise_cons.2 ⟨fun q hq => hother q hq, hap.2⟩, fun m hm => ⟨(h.maps m hm).1, (hgrow.block m.1 (lt_of_heap (h.maps m hm).2) (fun e => h.offmaps m hm _ (List.mem_cons_self ..) e.symm)).trans (h.maps m hm).2⟩, fun m hm p hp => ?_⟩
  rcases List.mem_cons.1 hp with rfl | hp
  · exact hown
  · have hr := h.rows p (List.mem_cons_of_mem _ hp)
    refine hr.kept hgrow ?_
    by_cases hpn : p.v.ownBlock = none
    · exact .inl hpn
    · right
      rcases hap.1 p hp with h2 | h2
      · have h2' : v.ownBlock = none := h2
        rw [h2']; exact hpn
      · exact fun e' => h2 e'.symm
  · rcases List.mem_cons.1 hp with rfl | hp
    · rcases hat with h1 | h1
      · intro e'; exact h.offmaps m hm _ (List.mem_cons_self ..) (h1.symm.trans e')
      · intro e'
        have e2 := h1.symm.trans e'
        injection e2 with e2
        have := lt_of_heap (h.maps m hm).2
        omega
    · exact h.offmaps m hm p (List.mem_cons_of_mem _ hp)
theorem grownBy_of_below {w w' : World} (hb : Below w.heap.size w w') (row : Option Nat) : w.grownBy w' row := ⟨hb.os, hb.tape, hb.output, hb.size, fun k hk _ => hb.block k hk⟩
/-- A call that turns nothing that was there. -/
theorem Own.later {W0 : Base} {w w' : World} {L : List Rw} (h : Own W0 w L) (hb : Below w.heap.size w w') : Own W0 w' L := by
  refine ⟨h.below.trans (hb.mono h.size), fun p hp => ?_, h.apart, fun m hm => ⟨(h.maps m hm).1, (hb.block _ (lt_of_heap (h.maps m hm).2)).trans (h.maps m hm).2⟩, h.offmaps⟩
  have hr := h.rows p hp
  by_cases hpn : p.v.ownBlock = none
  · exact hr.kept (grownBy_of_below hb none) (.inl hpn)
  · exact hr.kept (grownBy_of_below hb none) (.inr hpn)
theorem Own.len {W0 : Base} {w : World} {p : Rw} {L : List Rw} (h : Own W0 w (p :: L)) : p.xs.length = p.n * p.size := h.head.1
/-- A cell is written. -/
theorem Own.set {W0 : Base} {w : World} {e size g n cap : Nat} {xs : List Value} {L : List Rw} (h : Own W0 w (⟨e, size, .slice (some ⟨g, 0, none⟩) n cap, n, xs⟩ :: L)) (j : Nat) (u : Value) :
    Own W0 (w.setCell ⟨g, j, none⟩ u) (⟨e, size, .slice (some ⟨g, 0, none⟩) n cap, n, xs.set j u⟩ :: L) := by
  have hh : w.ownsRow W0.world.heap.size e size (.slice (some ⟨g, 0, none⟩) n cap) n xs := h.head
  have hs := hh.stored j u
  exact Own.grown h hs.1 hs.2 (.inl rfl)
/-- Cells in a row are written. -/
def splice (xs : List Value) (o : Nat) : List Value → List Value
  | [] => xs
  | v :: vs => splice (xs.set o v) (o + 1) vs
theorem splice_length (vs : List Value) : ∀ (xs : List Value) (o : Nat), (splice xs o vs).length = xs.length := by
  induction vs with
  | nil => intros; rfl
  | cons v vs ih => intro xs o; rw [splice, ih, List.length_set]
theorem splice_get (vs : List Value) : ∀ (xs : List Value) (o i : Nat), o + vs.length ≤ xs.length → (splice xs o vs)[i]? = if o ≤ i ∧ i < o + vs.length then vs[i - o]? else xs[i]? := by
  induction vs with
  | nil => intro xs o i _; rw [splice, if_neg (by simp)]
  | cons v vs ih =>
    intro xs o i hl
    simp only [List.length_cons] at hl ⊢
    rw [splice, ih _ _ _ (by rw [List.length_set]; omega)]
    by_cases h1 : o + 1 ≤ i ∧ i < o + 1 + vs.length
    · rw [if_pos h1, if_pos (by omega), show i - o = (i - (o + 1)) + 1 from by omega, List.getElem?_cons_succ]
    · rw [if_neg h1, List.getElem?_set]
      by_cases h2 : o = i
      · subst h2
        rw [if_pos rfl, if_pos (by omega), if_pos (by omega), Nat.sub_self]
        rfl
      · rw [if_neg h2, if_neg (by omega)]
theorem Own.setCells {W0 : Base} {w : World} {e size g n cap : Nat} {xs : List Value} {L : List Rw} (h : Own W0 w (⟨e, size, .slice (some ⟨g, 0, none⟩) n cap, n, xs⟩ :: L)) (vs : List Value) : ∀ (o : Nat),
    Own W0 (w.setCells g o vs) (⟨e, size, .slice (some ⟨g, 0, none⟩) n cap, n, splice xs o vs⟩ :: L) := by
  induction vs generalizing w xs with
  | nil => intro o; exact h
  | cons v vs ih => intro o; exact ih (h.set o v) (o + 1)
theorem splice_all' (zs vs : List Value) (h : zs.length = vs.length) : splice zs 0 vs = vs := by
  apply List.ext_getElem?
  intro q
  rw [splice_get _ _ _ _ (by omega)]
  by_cases hq : q < vs.length
  · rw [if_pos ⟨Nat.zero_le _, by omega⟩, Nat.sub_zero]
  · rw [if_neg (by omega), List.getElem?_eq_none (by omega), List.getElem?_eq_none (by omega)]
/-- What an owned row that holds something looks like. -/
theorem Own.form {W0 : Base} {w : World} {e size n : Nat} {v : Value} {xs : List Value} {L : List Rw} (h : Own W0 w (⟨e, size, v, n, xs⟩ :: L)) (hn : 0 < n) : ∃ g cap, v = .slice (some ⟨g, 0, none⟩) n cap ∧ W0.world.heap.size ≤ g ∧ g < w.heap.size ∧ n ≤ cap ∧ cap ≤ maxLen := by
  rcases h.head.2 with ⟨h2, h3⟩ | ⟨g', cap', cur, h2, h3, h4, h5, h6, _⟩
  · exact absurd h3 (by simp; omega)
  · refine ⟨g', cap', h2, h3, ?_, h5, h6⟩
    exact (h.lt (List.mem_cons_self ..) (k := g') (by show Value.ownBlock v = some g'; rw [show v = _ from h2]; rfl)).2
theorem Own.cell {W0 : Base} {w : World} {e size g n cap : Nat} {xs : List Value} {L : List Rw} (h : Own W0 w (⟨e, size, .slice (some ⟨g, 0, none⟩) n cap, n, xs⟩ :: L)) (j : Nat) (hj : j < n * size) : w.cell? ⟨g, j, none⟩ = xs[j]? :=
  World.ownsRow.cellAt (h.head : w.ownsRow W0.world.heap.size e size (.slice (some ⟨g, 0, none⟩) n cap) n xs) j hj
theorem Own.free {W0 : Base} {w : World} {e size g n cap : Nat} {xs : List Value} {L : List Rw} (h : Own W0 w (⟨e, size, .slice (some ⟨g, 0, none⟩) n cap, n, xs⟩ :: L)) (j : Nat) : w.frozen? ⟨g, j, none⟩ = false :=
  World.ownsRow.frozenAt (h.head : w.ownsRow W0.world.heap.size e size (.slice (some ⟨g, 0, none⟩) n cap) n xs) j
theorem Own.range {W0 : Base} {w : World} {e size g n cap : Nat} {xs : List Value} {L : List Rw} (h : Own W0 w (⟨e, size, .slice (some ⟨g, 0, none⟩) n cap, n, xs⟩ :: L)) (o k : Nat) : w.rangeAt g o ((xs.drop o).take k) := by
  intro j v hj
  have hl : xs.length = n * size := h.len
  have hj' : j < k := by
    rcases Nat.lt_or_ge j k with h1 | h1
    · exact h1
    · rw [List.getElem?_eq_none (by simp; omega)] at hj; cases hj
  rw [List.getElem?_take, if_pos hj', List.getElem?_drop] at hj
  have hlt : o + j < xs.length := by
    rcases Nat.lt_or_ge (o + j) xs.length with h1 | h1
    · exact h1
    · rw [List.getElem?_eq_none h1] at hj; cases hj
  rw [h.cell (o + j) (by omega)]
  exact hj
theorem Own.there {W0 : Base} {w : World} {e size g n cap : Nat} {xs : List Value} {L : List Rw} (h : Own W0 w (⟨e, size, .slice (some ⟨g, 0, none⟩) n cap, n, xs⟩ :: L)) (o k : Nat) (hk : o + k ≤ n * size) : w.there g o k := by
  intro j hj
  have hl : xs.length = n * size := h.len
  refine ⟨?_, h.free (o + j)⟩
  rw [h.cell (o + j) (by omega), List.getElem?_eq_getElem (by omega)]
  rfl
/-- A cell that was there before the call. -/
theorem Own.old {W0 : Base} {w : World} {L : List Rw} (h : Own W0 w L) {b o : Nat} {v : Value} (hc : W0.world.cell? ⟨b, o, none⟩ = some v) : w.cell? ⟨b, o, none⟩ = some v :=
  (h.below.cell (p := ⟨b, o, none⟩) (World.block_lt_of_cell? W0.world _ hc)).trans hc

/-- What is appended: nothing of nil, or m elements' cells that lie somewhere. -/
def Src (w : World) (x : Value) (m : Nat) (news : List Value) : Prop :=
  (x = .slice none 0 0 ∧ m = 0 ∧ news = []) ∨ ∃ ad c, x = .slice (some ad) m c ∧ (∀ j u, news[j]? = some u → w.cell? (ad.add j) = some u) ∧ ∀ u ∈ news, u.oneCell' = true

section
variable {P : Program}
theorem run_append_src {W0 : Base} {w : World} {L : List Rw} {e size n t ty : Nat} {v : Value} {xs news : List Value} (h : Own W0 w (⟨e, size, v, n, xs⟩ :: L)) (i : TypeInfo) (z : Value) (bytes : Nat) (ht : P.underlying t = some (.slice e)) (hi : P.info? e = some i) (hz : i.zero = some z)
    (hsize : i.size = size) (hby : i.bytes = bytes) (hzs : z.cells.size = size) (hpos : 0 < size) (x : Value) (m : Nat) (hsrc : Src w x m news) (hl : news.length = m * size) (h63 : n + m ≤ maxLen) (hbytes : (n + m) * bytes ≤ 140737488355328) :
    ∃ v' w', (Builtin.append_ #[t, t] ty #[v, x]).run P w = .ok v' w' ∧ Own W0 w' (⟨e, size, v', n + m, xs ++ news⟩ :: L) := by
  rcases hsrc with ⟨rfl, rfl, rfl⟩ | ⟨ad, c, rfl, hnews, h1⟩
  · refine ⟨v, w, run_append_owned_none (P := P) w W0.world.heap.size t ty e i size ht hi v n xs h.head, by simpa using h⟩
  · obtain ⟨v', w', hr, h2, h3, _, h5⟩ := run_append_own_at (P := P) w W0.world.heap.size t ty e i z size bytes ht hi hz hsize hby hzs hpos v n xs h.head ad m c news hl hnews h1 h63 hbytes h.size
    exact ⟨v', w', hr, h.grown h2 h3 h5⟩

/-- append at a step of a region that draws its order. -/
theorem step_append_src {ops : Array Oper} {o : Oper} {a : Act} {w : World} {K : Act → World → Prop} {Q : Exit → Act → World → Prop} {E : Prop} (hgd : o.guard = none) (s x : Operand) (t : TypeId)
    (ho : o.op = .call { callee := .builtin .append, args := #[s, x], argTypes := #[t, t] }) {W0 : Base} {L : List Rw} {e size : Nat} (v : Value) (n : Nat) (xs : List Value) (xv : Value) (m : Nat) (news : List Value) (hs : a.eval s = v) (hx : a.eval x = xv) (h : Own W0 w (⟨e, size, v, n, xs⟩ :: L)) (i : TypeInfo) (z : Value) (bytes : Nat) (ht : P.underlying t = some (.slice e)) (hi : P.info? e = some i) (hz : i.zero = some z)
    (hsize : i.size = size) (hby : i.bytes = bytes) (hzs : z.cells.size = size) (hpos : 0 < size) (hsrc : Src w xv m news) (hl : news.length = m * size) (h63 : n + m ≤ maxLen) (hbytes : (n + m) * bytes ≤ 140737488355328)
    (hK : ∀ v' w', Own W0 w' (⟨e, size, v', n + m, xs ++ news⟩ :: L) → K (a.put o.dst v') w') :
    if Region.wanted o (yielded ops a.tmps) = true then Oper.wp P o a w K Q else E := by
  have hw : Region.wanted o (yielded ops a.tmps) = true := by simp [Region.wanted, hgd]
  rw [if_pos hw]
  obtain ⟨v', w', hr, h2⟩ := run_append_src (P := P) (ty := o.type) h i z bytes ht hi hz hsize hby hzs hpos xv m hsrc hl h63 hbytes
  unfold Oper.wp
  simp [execOp, ho, resolve, invoke, builtin, hs, hx, hr, Result.andThen]
  exact hK _ _ h2

/-- append in a plain region. -/
theorem wpList_append_src {ops : Array Oper} {rest : List Oper} {o : Oper} {a : Act} {w : World} {Q : Exit → Act → World → Prop} (hgd : o.guard = none) (s x : Operand) (t : TypeId)
    (ho : o.op = .call { callee := .builtin .append, args := #[s, x], argTypes := #[t, t] }) {W0 : Base} {L : List Rw} {e size : Nat} (v : Value) (n : Nat) (xs : List Value) (xv : Value) (m : Nat) (news : List Value) (hs : a.eval s = v) (hx : a.eval x = xv) (h : Own W0 w (⟨e, size, v, n, xs⟩ :: L)) (i : TypeInfo) (z : Value) (bytes : Nat) (ht : P.underlying t = some (.slice e)) (hi : P.info? e = some i) (hz : i.zero = some z)
    (hsize : i.size = size) (hby : i.bytes = bytes) (hzs : z.cells.size = size) (hpos : 0 < size) (hsrc : Src w xv m news) (hl : news.length = m * size) (h63 : n + m ≤ maxLen) (hbytes : (n + m) * bytes ≤ 140737488355328)
    (hK : ∀ v' w', Own W0 w' (⟨e, size, v', n + m, xs ++ news⟩ :: L) → wpList P ops Q rest (a.put o.dst v') w') : wpList P ops Q (o :: rest) a w := by
  refine wpList_plain hgd fun K hk => ?_
  obtain ⟨v', w', hr, h2⟩ := run_append_src (P := P) (ty := o.type) h i z bytes ht hi hz hsize hby hzs hpos xv m hsrc hl h63 hbytes
  unfold Oper.wp
  simp [execOp, ho, resolve, invoke, builtin, hs, hx, hr, Result.andThen]
  exact hk _ _ (hK _ _ h2)
/-- A value of many cells is read, where the region's head only reads. -/
theorem wpStill_load_mid {ops : Array Oper} {rest : List Oper} {op : Oper} {a : Act} {w : World} {Q : Act → Prop} (hgd : op.guard = none) (ty : TypeId) (x : Operand) (ho : op.op = .load ty x)
    (b o : Nat) (hx : a.eval x = .pointer (some ⟨b, o, none⟩)) (cs : List Value) (d : TypeDesc) (hc : w.rangeAt b o cs)
    (hu : P.underlying ty = some d) (hd : d.isRow = true) (hi : (P.info? ty).map (·.size) = some cs.length)
    (h : wpStill P ops w Q rest (a.put op.dst (.agg cs.toArray))) : wpStill P ops w Q (op :: rest) a := by
  refine wpStill_step fun K hK => ?_
  have hw : Region.wanted op (yielded ops a.tmps) = true := by simp [Region.wanted, hgd]
  rw [if_pos hw]
  unfold Oper.still execOp
  simp only [ho, hx, Instr.loadAt, Instr.sureAddr, Sem.run_bind, Sem.run_pure, Result.andThen_ok, run_loadVar_mid w b o ty cs d hc hu hd hi]
  exact ⟨rfl, hK _ h⟩

theorem fold_splice (vs : List Value) : ∀ (cs : Array Value) (off k : Nat), ((vs.zipIdx k).foldl (fun (cs : Array Value) (x : Value × Nat) => cs.setIfInBounds (off + x.2) x.1) cs).toList = splice cs.toList (off + k) vs := by
  induction vs with
  | nil => intros; rfl
  | cons v vs ih =>
    intro cs off k
    rw [List.zipIdx_cons, List.foldl_cons, ih, splice, Array.toList_setIfInBounds]
    rfl
/-- A slice literal of one element of many cells. -/
theorem run_buildSlice_one (w : World) (t elem size : Nat) (i : TypeInfo) (z : Value) (ht : P.underlying t = some (.slice elem)) (hi : P.info? elem = some i) (hsz : i.size = size) (hz : i.zero = some z) (hzs : z.cells.size = size) (hpos : 0 < size) (hle : size ≤ 16777216)
    (cs : List Value) (hl : cs.length = size) : (Instr.buildSlice t 1 #[(0, .agg cs.toArray)]).run P w = .ok (.slice (some ⟨w.heap.size, 0, none⟩) 1 1) (w.alloc (.cells cs.toArray elem)) := by
  have hne : ¬ size = 0 := by omega
  have hng : ¬ 16777216 < size := by omega
  have hf : Instr.fill (fun i => some (i * size, size)) ((Array.range (1 * size)).map (z.cells[· % z.cells.size]!)) [(0, .agg cs.toArray)] = some cs.toArray := by
    generalize z.cells = zc at *
    have e := fold_splice cs ((Array.range (1 * size)).map (zc[· % zc.size]!)) 0 0
    rw [splice_all' _ _ (by simp; omega)] at e
    have hc : (Value.agg cs.toArray).cells = cs.toArray := rfl
    unfold Instr.fill
    simp only [hc]
    rw [if_neg (by simp; omega)]
    unfold Instr.fill
    congr 1
    apply Array.ext'
    have hz2 : cs.toArray.zipIdx = cs.zipIdx.toArray := by simp
    rw [hz2, List.foldl_toArray', Nat.zero_mul]
    · exact e
    · rfl
  unfold Instr.buildSlice
  simp [run_underlying ht, sizeOf, typeInfo, zeroValue, hi, hsz, hz, hne, hng, newRow]
  simp only [Nat.one_mul] at hf
  simp [hf]
theorem wpList_buildSlice_one {ops : Array Oper} {rest : List Oper} {op : Oper} {a : Act} {w : World} {Q : Exit → Act → World → Prop} (hgd : op.guard = none) (t : TypeId) (x : Operand) (ho : op.op = .buildSlice t 1 #[(0, x)])
    (elem size : Nat) (i : TypeInfo) (z : Value) (ht : P.underlying t = some (.slice elem)) (hi : P.info? elem = some i) (hsz : i.size = size) (hz : i.zero = some z) (hzs : z.cells.size = size) (hpos : 0 < size) (hle : size ≤ 16777216)
    (cs : List Value) (hx : a.eval x = .agg cs.toArray) (hl : cs.length = size)
    (h : wpList P ops Q rest (a.put op.dst (.slice (some ⟨w.heap.size, 0, none⟩) 1 1)) (w.alloc (.cells cs.toArray elem))) : wpList P ops Q (op :: rest) a w := by
  refine wpList_plain hgd fun K hK => ?_
  unfold Oper.wp execOp
  have hr := run_buildSlice_one (P := P) w t elem size i z ht hi hsz hz hzs hpos hle cs hl
  simp only [ho, List.map_toArray, List.map_cons, List.map_nil, hx, Sem.run_bind, hr, Result.andThen_ok, Sem.run_pure]
  exact hK _ _ h
/-- A struct, or an array, that is built, where the region's head only reads. -/
theorem wpStill_build {ops : Array Oper} {rest : List Oper} {op : Oper} {a : Act} {w : World} {Q : Act → Prop} (hgd : op.guard = none) (t : TypeId) (parts : Array (Nat × Operand)) (ho : op.op = .build t parts)
    (vals : List (Nat × Value)) (hv : (parts.toList.map fun x => (x.1, a.eval x.2)) = vals) (cells : Array Value) (hb : P.built t vals = some cells)
    (h : wpStill P ops w Q rest (a.put op.dst (.agg cells))) : wpStill P ops w Q (op :: rest) a := by
  refine wpStill_step fun K hK => ?_
  have hw : Region.wanted op (yielded ops a.tmps) = true := by simp [Region.wanted, hgd]
  rw [if_pos hw]
  subst hv
  unfold Oper.still execOp
  have hr := run_build (P := P) w t (parts.map fun x => (x.1, a.eval x.2)) cells (by rw [Array.toList_map]; exact hb)
  simp only [ho, Sem.run_bind, hr, Result.andThen_ok, Sem.run_pure]
  exact ⟨rfl, hK _ h⟩
theorem wpList_build {ops : Array Oper} {rest : List Oper} {op : Oper} {a : Act} {w : World} {Q : Exit → Act → World → Prop} (hgd : op.guard = none) (t : TypeId) (parts : Array (Nat × Operand)) (ho : op.op = .build t parts)
    (vals : List (Nat × Value)) (hv : (parts.toList.map fun x => (x.1, a.eval x.2)) = vals) (cells : Array Value) (hb : P.built t vals = some cells)
    (h : wpList P ops Q rest (a.put op.dst (.agg cells)) w) : wpList P ops Q (op :: rest) a w := by
  refine wpList_plain hgd fun K hK => ?_
  subst hv
  unfold Oper.wp execOp
  have hr := run_build (P := P) w t (parts.map fun x => (x.1, a.eval x.2)) cells (by rw [Array.toList_map]; exact hb)
  simp only [ho, Sem.run_bind, hr, Result.andThen_ok, Sem.run_pure]
  exact hK _ _ h

/-- A value of many cells is stored into a variable that was just made: behind it the variable is a row of one. -/
theorem wpList_store_new {ops : Array Oper} {rest : List Oper} {op : Oper} {a : Act} {w : World} {Q : Exit → Act → World → Prop} (hgd : op.guard = none) (ty : TypeId) (x y : Operand) (ho : op.op = .store ty x y)
    {W0 : Base} {L : List Rw} (h : Own W0 w L) {Z : Array Value} (cs : List Value) (b : Nat) (hb : b = w.heap.size) (hx : a.eval x = .pointer (some ⟨b, 0, none⟩)) (hy : a.eval y = .agg cs.toArray) (hz : Z.size = cs.length)
    (hi : (P.info? ty).map (·.size) = some cs.length) (h1 : ∀ v ∈ cs, v.oneCell' = true)
    (hK : ∀ w', Own W0 w' (⟨ty, cs.length, .slice (some ⟨b, 0, none⟩) 1 1, 1, cs⟩ :: L) → b < w'.heap.size → wpList P ops Q rest (a.put op.dst undef) w') : wpList P ops Q (op :: rest) a (w.alloc (.cells Z ty)) := by
  subst hb
  have hm := h.made ty cs.length Z 1 (by omega) (by unfold maxLen; decide)
  refine wpList_store_mid hgd ty x y ho w.heap.size 0 cs.toArray hx hy ?_ (by simpa using hi) (all_oneCell_toArray h1) (hK _ ?_ ?_)
  · have := hm.there 0 cs.length (by omega)
    simpa using this
  · have := hm.setCells cs 0
    rw [splice_all' Z.toList cs (by simpa using hz)] at this
    exact this
  · have h2 := (hm.setCells cs 0).lt (List.mem_cons_self ..) (k := w.heap.size) rfl
    exact h2.2
end
end Go.Proofs.YtjhaihckbmkiaaaDoor
