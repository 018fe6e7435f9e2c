/- Texts one behind the other, each in a section of its own: what calls make of memory, step by step. -/
import Derived.Handed
import Derived.Stop.Joined
import Derived.WalkKit
import Derived.OwnWalk
import Derived.Below
import Derived.IntWalk
import Derived.Maps.AppendAt
import Derived.Laws.OwnMore
import Derived.Laws.AppendOwnNone
import Derived.Deep.RegionLaw
import Derived.Deep.MidRow
import Derived.StillTailTactics
import Derived.Laws.Tables
import Derived.Deep.Draws
import Derived.Lib.SplitLaws
import Derived.Lib.Join
import Derived.Laws.RangeAny
import Derived.Test.YtdjoahhcmkedhaaGreatDoorChecked
import Derived.Lib.OthersKept
import Derived.Lib.Hide
import Derived.Deep.LoopGhost
import Derived.Shelf.Strings.Builder1
import Derived.Shelf.Strings.Builder2
import Derived.Shelf.Strings.OnBuilder
import Derived.Shelf.Small.Wraps
import Derived.Shelf.Strings.Search1
import Derived.Shelf.Strings.Search2
import Derived.Shelf.Strings.Search3
import Derived.Shelf.Strings.Count
import Derived.Shelf.LaysM
import Derived.Shelf.Strings.Shaped
import Derived.Shelf.Sort.Plain
import Derived.Shelf.Strings.Prefix
import Derived.Shelf.Strings.Split
import Derived.Shelf.Unicode.DecodeSlow
import Derived.Shelf.Slices.In.SortNone
import Derived.Test.YtdjoahhcmkedhaaGreatDoorProg
import Derived.Shelf.Vars

/- From a contract to a row that lists package-level variables: the wrap that hands on both the listed variables' condition and the world's shape. Of no program. -/
section
namespace Go.Proofs.YtdjoahhcmkedhaaGreatDoor
set_option linter.unusedVariables false

/-- As the library's wrap under one more premise X, with the world's shape handed on. -/
theorem handed_laid_shaped {H : Type} {enc : TypeId × Value → H} {a : Assume} {C : Checked} {os : Os} {f : FuncId} {fn : Func} {s : ChangeSpec} {conds : List PathCond} {apart fresh handsOn again : Bool} {X : World → Array Value → Prop}
    (keep : ∀ (w w' : World) (args : Array Value), w.heap = w'.heap → X w args → X w' args)
    (own : ownKnob C.prog.godebug = none) (started : os.Started) (noInit : C.prog.inits.idxOf? f = none) (hfn : C.prog.funcs[f]? = some fn)
    (witness : ∃ (w : World) (tape : Tape) (i : Input), w.os = os ∧ (w.forCall tape i).Shaped C.prog ∧ i.vars = [] ∧ Input.okWide C.prog (w.forCall tape i) .any w.heap.size f i ∧
      ((s.pre enc C.prog fn conds apart (w.forCall tape i).memory i.args ∧ X (w.forCall tape i).memory i.args) ∧ sizedMet enc C.prog fn (OpenSpec.ofChange s) apart (w.forCall tape i).memory i.args) ∧ a.holds C.prog (lone (Frame.enter C.prog f i.args .normal) [] (w.forCall tape i)))
    (contract : ∀ (W : World) (base : Nat) (args : Array Value) (ds gs : List (DataW H)) (before : List MemPlace),
      (∀ (j : Nat) t v, fn.params[j]? = some t → args[j]? = some v → Value.okWide C.prog W .any base t v) →
      DataW.Whole enc C.prog fn.params.toList s.vars apart W args.toList ds gs before →
      conds.all (PathCond.test C.prog ⟨fn.params.toList, ds, s.plain.varTypes C.prog, gs⟩) = true → X W args → W.ShapedOpen C.prog →
      Calls C.prog f args W fun e W' => ∃ v, e = .returned v ∧ s.post enc C.prog fn apart fresh handsOn again W args v W') :
    ReturnsInHanded a C os f .any (fun w args => (s.pre enc C.prog fn conds apart w args ∧ X w args) ∧ sizedMet enc C.prog fn (OpenSpec.ofChange s) apart w args) (s.post enc C.prog fn apart fresh handsOn again) := by
  refine returnsInHanded_of_calls own started noInit witness fun w tape i _ shape _ ok pre _ => ?_
  obtain ⟨_, _, _, fn2, hfn2, _, _, _, _, val⟩ := ok
  obtain rfl : fn2 = fn := Option.some.inj (hfn2.symm.trans hfn)
  obtain ⟨⟨⟨ds, gs, before, whole, met⟩, hx⟩, _⟩ := pre
  have done := contract (w.forCall tape i) w.heap.size i.args ds gs before val (DataW.Whole.of_heap (w' := w.forCall tape i) (by rfl) whole) met (keep _ _ _ (by rfl) hx) shape
  refine done.mono fun e W' h => ?_
  obtain ⟨v, rfl, post⟩ := h
  exact ChangeSpec.post_blind post
end Go.Proofs.YtdjoahhcmkedhaaGreatDoor
end

/- Rows that a call has made and owns, several at once, no two in one block; what was there before the call is as it was. Of whatever element size. General: over any program. -/
section
namespace Go.Proofs.YtdjoahhcmkedhaaGreatDoor
open Go.RowKit
set_option linter.unusedVariables false
set_option linter.unusedSimpArgs false

/-- A row: its element's type and number of cells, the slice value, its length, its cells. -/
structure Rw where
  e : TypeId
  size : Nat
  v : Value
  n : Nat
  xs : List Value

/-- What there was ahead of the call, and the maps that the law has made since, each as it is now: none of these is turned by a call. -/
structure Base where
  world : World
  maps : List (Nat × Obj)
instance : Coe World Base := ⟨fun w => ⟨w, []⟩⟩

structure Own (W0 : Base) (w : World) (L : List Rw) : Prop where
  below : Below W0.world.heap.size W0.world w
  rows : ∀ p ∈ L, w.ownsRow W0.world.heap.size p.e p.size p.v p.n p.xs
  apart : L.Pairwise fun p q => p.v.ownBlock = none ∨ p.v.ownBlock ≠ q.v.ownBlock
  maps : ∀ m ∈ W0.maps, W0.world.heap.size ≤ m.1 ∧ w.heap[m.1]? = some m.2
  offmaps : ∀ m ∈ W0.maps, ∀ p ∈ L, p.v.ownBlock ≠ some m.1

theorem lt_of_heap {w : World} {k : Nat} {o : Obj} (h : w.heap[k]? = some o) : k < w.heap.size := by
  rcases Nat.lt_or_ge k w.heap.size with h1 | h1
  · exact h1
  · rw [Array.getElem?_eq_none h1] at h; cases h
theorem Own.start (w : World) : Own w w [] := ⟨Below.refl _ _, (fun p hp => by cases hp), List.Pairwise.nil, (fun m hm => by cases hm), (fun m hm => by cases hm)⟩
theorem Own.of_below {W0 w : World} (h : Below W0.heap.size W0 w) : Own W0 w [] := ⟨h, (fun p hp => by cases hp), List.Pairwise.nil, (fun m hm => by cases hm), (fun m hm => by cases hm)⟩
theorem Own.size {W0 : Base} {w : World} {L : List Rw} (h : Own W0 w L) : W0.world.heap.size ≤ w.heap.size := h.below.size
theorem Own.lt {W0 : Base} {w : World} {L : List Rw} (h : Own W0 w L) {p : Rw} (hp : p ∈ L) {k : Nat} (hk : p.v.ownBlock = some k) : W0.world.heap.size ≤ k ∧ k < w.heap.size := (h.rows p hp).lt k hk
theorem Own.drew {W0 : Base} {w : World} {L : List Rw} (h : Own W0 w L) : Own W0 w.drew L := ⟨h.below.drew, fun p hp => (h.rows p hp).drew, h.apart, h.maps, h.offmaps⟩
theorem Own.alloc {W0 : Base} {w : World} {L : List Rw} (h : Own W0 w L) (o : Obj) : Own W0 (w.alloc o) L :=
  ⟨h.below.alloc h.size o, fun p hp => (h.rows p hp).alloc o, h.apart, fun m hm => ⟨(h.maps m hm).1, (Below.heap_alloc _ _ _ (lt_of_heap (h.maps m hm).2)).trans (h.maps m hm).2⟩, h.offmaps⟩
theorem Own.perm {W0 : Base} {w : World} {L L' : List Rw} (h : Own W0 w L) (hp : L.Perm L') : Own W0 w L' := by
  refine ⟨h.below, fun r hr => h.rows r (hp.mem_iff.2 hr), hp.pairwise h.apart ?_, h.maps, fun m hm r hr => h.offmaps m hm r (hp.mem_iff.2 hr)⟩
  intro a b hab
  by_cases hb : b.v.ownBlock = none
  · exact .inl hb
  · rcases hab with hab | hab
    · exact .inr fun e => hb (e.trans hab)
    · exact .inr fun e => hab e.symm
theorem Own.swap {W0 : Base} {w : World} {p q : Rw} {L : List Rw} (h : Own W0 w (p :: q :: L)) : Own W0 w (q :: p :: L) := h.perm (List.Perm.swap q p L)
theorem Own.third {W0 : Base} {w : World} {p q r : Rw} {L : List Rw} (h : Own W0 w (p :: q :: r :: L)) : Own W0 w (r :: p :: q :: L) := h.perm (((List.Perm.swap r q L).cons p).trans (List.Perm.swap r p (q :: L)))
theorem Own.unthird {W0 : Base} {w : World} {p q r : Rw} {L : List Rw} (h : Own W0 w (r :: p :: q :: L)) : Own W0 w (p :: q :: r :: L) := h.perm ((List.Perm.swap p r (q :: L)).trans ((List.Perm.swap q r L).cons p))
theorem Own.fourth {W0 : Base} {w : World} {p q r s : Rw} {L : List Rw} (h : Own W0 w (p :: q :: r :: s :: L)) : Own W0 w (s :: p :: q :: r :: L) :=
  h.perm ((((List.Perm.swap s r L).cons q).trans (List.Perm.swap s q (r :: L))).cons p |>.trans (List.Perm.swap s p (q :: r :: L)))
theorem Own.unfourth {W0 : Base} {w : World} {p q r s : Rw} {L : List Rw} (h : Own W0 w (s :: p :: q :: r :: L)) : Own W0 w (p :: q :: r :: s :: L) :=
  h.perm ((((List.Perm.swap s r L).cons q).trans (List.Perm.swap s q (r :: L))).cons p |>.trans (List.Perm.swap s p (q :: r :: L))).symm
theorem Own.fifth {W0 : Base} {w : World} {p q r s t : Rw} {L : List Rw} (h : Own W0 w (p :: q :: r :: s :: t :: L)) : Own W0 w (t :: p :: q :: r :: s :: L) :=
  h.perm (((((List.Perm.swap t s L).cons r).trans (List.Perm.swap t r (s :: L))).cons q |>.trans (List.Perm.swap t q (r :: s :: L))).cons p |>.trans (List.Perm.swap t p (q :: r :: s :: L)))
theorem Own.unfifth {W0 : Base} {w : World} {p q r s t : Rw} {L : List Rw} (h : Own W0 w (t :: p :: q :: r :: s :: L)) : Own W0 w (p :: q :: r :: s :: t :: L) :=
  h.perm (((((List.Perm.swap t s L).cons r).trans (List.Perm.swap t r (s :: L))).cons q |>.trans (List.Perm.swap t q (r :: s :: L))).cons p |>.trans (List.Perm.swap t p (q :: r :: s :: L))).symm
theorem Own.tail {W0 : Base} {w : World} {p : Rw} {L : List Rw} (h : Own W0 w (p :: L)) : Own W0 w L :=
  ⟨h.below, fun r hr => h.rows r (List.mem_cons_of_mem _ hr), (List.pairwise_cons.1 h.apart).2, h.maps, fun m hm r hr => h.offmaps m hm r (List.mem_cons_of_mem _ hr)⟩
theorem Own.head {W0 : Base} {w : World} {p : Rw} {L : List Rw} (h : Own W0 w (p :: L)) : w.ownsRow W0.world.heap.size p.e p.size p.v p.n p.xs := h.rows _ (List.mem_cons_self ..)
theorem Own.nil {W0 : Base} {w : World} {L : List Rw} (h : Own W0 w L) (e size : Nat) : Own W0 w (⟨e, size, .slice none 0 0, 0, []⟩ :: L) := by
  refine ⟨h.below, fun p hp => ?_, List.pairwise_cons.2 ⟨fun q hq => .inl rfl, h.apart⟩, h.maps, fun m hm p hp => by
    rcases List.mem_cons.1 hp with rfl | hp
    · exact fun e => by cases e
    · exact h.offmaps m hm p hp⟩
  rcases List.mem_cons.1 hp with rfl | hp
  · exact World.ownsRow_nil _ _ _ _
  · exact h.rows p hp
theorem Own.made {W0 : Base} {w : World} {L : List Rw} (h : Own W0 w L) (e size : Nat) (cs : Array Value) (n : Nat) (hn : cs.size = n * size) (hm : n ≤ maxLen) :
    Own W0 (w.alloc (.cells cs e)) (⟨e, size, .slice (some ⟨w.heap.size, 0, none⟩) n n, n, cs.toList⟩ :: L) := by
  refine ⟨(h.alloc _).below, fun p hp => ?_, List.pairwise_cons.2 ⟨fun q hq => ?_, h.apart⟩, (h.alloc _).maps, fun m hm p hp => ?_⟩
  · rcases List.mem_cons.1 hp with rfl | hp
    · exact World.ownsRow_lit w cs n h.size hm hn
    · exact (h.alloc _).rows p hp
  · right
    intro e'
    have := (h.lt hq (k := w.heap.size) e'.symm).2
    omega
  · rcases List.mem_cons.1 hp with rfl | hp
    · intro e'
      have e2 : some w.heap.size = some m.1 := e'
      injection e2 with e2
      have := lt_of_heap (h.maps m hm).2
      omega
    · exact h.offmaps m hm p hp
theorem Own.made_at {W0 : Base} {w : World} {L : List Rw} (h : Own W0 w L) (e size : Nat) (cs : Array Value) (n H : Nat) (hH : H = w.heap.size) (hn : cs.size = n * size) (hm : n ≤ maxLen) :
    Own W0 (w.alloc (.cells cs e)) (⟨e, size, .slice (some ⟨H, 0, none⟩) n n, n, cs.toList⟩ :: L) := hH ▸ h.made e size cs n hn hm
theorem Own.grown {W0 : Base} {w w' : World} {e size n n' : Nat} {v v' : Value} {xs ys : List Value} {L : List Rw} (h : Own W0 w (⟨e, size, v, n, xs⟩ :: L)) (hown : w'.ownsRow W0.world.heap.size e size v' n' ys) (hgrow : w.grownBy w' v.ownBlock)
    (hat : v'.ownBlock = v.ownBlock ∨ v'.ownBlock = some w.heap.size) : Own W0 w' (⟨e, size, v', n', ys⟩ :: L) := by
  have hap := List.pairwise_cons.1 h.apart
  have hother : ∀ q ∈ L, v'.ownBlock = none ∨ v'.ownBlock ≠ q.v.ownBlock := by
    intro q hq
    rcases hat with h1 | h1
    · rw [h1]; exact hap.1 q hq
    · right
      intro e'
      have := (h.lt (List.mem_cons_of_mem _ hq) (k := w.heap.size) (by rw [← e', h1])).2
      omega
  refine ⟨h.below.grown hgrow h.size fun k hk => (h.lt (List.mem_cons_self ..) hk).1, fun p hp => ?_, List.pairwise_cons.2 ⟨fun q hq => hother q hq, hap.2⟩, fun m hm => ⟨(h.maps m hm).1, (hgrow.block m.1 (lt_of_heap (h.maps m hm).2) (fun e => h.offmaps m hm _ (List.mem_cons_self ..) e.symm)).trans (h.maps m hm).2⟩, fun m hm p hp => ?_⟩
  rcases List.mem_cons.1 hp with rfl | hp
  · exact hown
  · have hr := h.rows p (List.mem_cons_of_mem _ hp)
    refine hr.kept hgrow ?_
    by_cases hpn : p.v.ownBlock = none
    · exact .inl hpn
    · right
      rcases hap.1 p hp with h2 | h2
      · have h2' : v.ownBlock = none := h2
        rw [h2']; exact hpn
      · exact fun e' => h2 e'.symm
  · rcases List.mem_cons.1 hp with rfl | hp
    · rcases hat with h1 | h1
      · intro e'; exact h.offmaps m hm _ (List.mem_cons_self ..) (h1.symm.trans e')
      · intro e'
        have e2 := h1.symm.trans e'
        injection e2 with e2
        have := lt_of_heap (h.maps m hm).2
        omega
    · exact h.offmaps m hm p (List.mem_cons_of_mem _ hp)
theorem grownBy_of_below {w w' : World} (hb : Below w.heap.size w w') (row : Option Nat) : w.grownBy w' row := ⟨hb.os, hb.tape, hb.output, hb.size, fun k hk _ => hb.block k hk⟩
/-- A call that turns nothing that was there. -/
theorem Own.later {W0 : Base} {w w' : World} {L : List Rw} (h : Own W0 w L) (hb : Below w.heap.size w w') : Own W0 w' L := by
  refine ⟨h.below.trans (hb.mono h.size), fun p hp => ?_, h.apart, fun m hm => ⟨(h.maps m hm).1, (hb.block _ (lt_of_heap (h.maps m hm).2)).trans (h.maps m hm).2⟩, h.offmaps⟩
  have hr := h.rows p hp
  by_cases hpn : p.v.ownBlock = none
  · exact hr.kept (grownBy_of_below hb none) (.inl hpn)
  · exact hr.kept (grownBy_of_below hb none) (.inr hpn)
theorem Own.len {W0 : Base} {w : World} {p : Rw} {L : List Rw} (h : Own W0 w (p :: L)) : p.xs.length = p.n * p.size := h.head.1
/-- A cell is written. -/
theorem Own.set {W0 : Base} {w : World} {e size g n cap : Nat} {xs : List Value} {L : List Rw} (h : Own W0 w (⟨e, size, .slice (some ⟨g, 0, none⟩) n cap, n, xs⟩ :: L)) (j : Nat) (u : Value) :
    Own W0 (w.setCell ⟨g, j, none⟩ u) (⟨e, size, .slice (some ⟨g, 0, none⟩) n cap, n, xs.set j u⟩ :: L) := by
  have hh : w.ownsRow W0.world.heap.size e size (.slice (some ⟨g, 0, none⟩) n cap) n xs := h.head
  have hs := hh.stored j u
  exact Own.grown h hs.1 hs.2 (.inl rfl)
/-- Cells in a row are written. -/
def splice (xs : List Value) (o : Nat) : List Value → List Value
  | [] => xs
  | v :: vs => splice (xs.set o v) (o + 1) vs
theorem splice_length (vs : List Value) : ∀ (xs : List Value) (o : Nat), (splice xs o vs).length = xs.length := by
  induction vs with
  | nil => intros; rfl
  | cons v vs ih => intro xs o; rw [splice, ih, List.length_set]
theorem splice_get (vs : List Value) : ∀ (xs : List Value) (o i : Nat), o + vs.length ≤ xs.length → (splice xs o vs)[i]? = if o ≤ i ∧ i < o + vs.length then vs[i - o]? else xs[i]? := by
  induction vs with
  | nil => intro xs o i _; rw [splice, if_neg (by simp)]
  | cons v vs ih =>
    intro xs o i hl
    simp only [List.length_cons] at hl ⊢
    rw [splice, ih _ _ _ (by rw [List.length_set]; omega)]
    by_cases h1 : o + 1 ≤ i ∧ i < o + 1 + vs.length
    · rw [if_pos h1, if_pos (by omega), show i - o = (i - (o + 1)) + 1 from by omega, List.getElem?_cons_succ]
    · rw [if_neg h1, List.getElem?_set]
      by_cases h2 : o = i
      · subst h2
        rw [if_pos rfl, if_pos (by omega), if_pos (by omega), Nat.sub_self]
        rfl
      · rw [if_neg h2, if_neg (by omega)]
theorem Own.setCells {W0 : Base} {w : World} {e size g n cap : Nat} {xs : List Value} {L : List Rw} (h : Own W0 w (⟨e, size, .slice (some ⟨g, 0, none⟩) n cap, n, xs⟩ :: L)) (vs : List Value) : ∀ (o : Nat),
    Own W0 (w.setCells g o vs) (⟨e, size, .slice (some ⟨g, 0, none⟩) n cap, n, splice xs o vs⟩ :: L) := by
  induction vs generalizing w xs with
  | nil => intro o; exact h
  | cons v vs ih => intro o; exact ih (h.set o v) (o + 1)
theorem splice_all' (zs vs : List Value) (h : zs.length = vs.length) : splice zs 0 vs = vs := by
  apply List.ext_getElem?
  intro q
  rw [splice_get _ _ _ _ (by omega)]
  by_cases hq : q < vs.length
  · rw [if_pos ⟨Nat.zero_le _, by omega⟩, Nat.sub_zero]
  · rw [if_neg (by omega), List.getElem?_eq_none (by omega), List.getElem?_eq_none (by omega)]
/-- What an owned row that holds something looks like. -/
theorem Own.form {W0 : Base} {w : World} {e size n : Nat} {v : Value} {xs : List Value} {L : List Rw} (h : Own W0 w (⟨e, size, v, n, xs⟩ :: L)) (hn : 0 < n) : ∃ g cap, v = .slice (some ⟨g, 0, none⟩) n cap ∧ W0.world.heap.size ≤ g ∧ g < w.heap.size ∧ n ≤ cap ∧ cap ≤ maxLen := by
  rcases h.head.2 with ⟨h2, h3⟩ | ⟨g', cap', cur, h2, h3, h4, h5, h6, _⟩
  · exact absurd h3 (by simp; omega)
  · refine ⟨g', cap', h2, h3, ?_, h5, h6⟩
    exact (h.lt (List.mem_cons_self ..) (k := g') (by show Value.ownBlock v = some g'; rw [show v = _ from h2]; rfl)).2
theorem Own.cell {W0 : Base} {w : World} {e size g n cap : Nat} {xs : List Value} {L : List Rw} (h : Own W0 w (⟨e, size, .slice (some ⟨g, 0, none⟩) n cap, n, xs⟩ :: L)) (j : Nat) (hj : j < n * size) : w.cell? ⟨g, j, none⟩ = xs[j]? :=
  World.ownsRow.cellAt (h.head : w.ownsRow W0.world.heap.size e size (.slice (some ⟨g, 0, none⟩) n cap) n xs) j hj
theorem Own.free {W0 : Base} {w : World} {e size g n cap : Nat} {xs : List Value} {L : List Rw} (h : Own W0 w (⟨e, size, .slice (some ⟨g, 0, none⟩) n cap, n, xs⟩ :: L)) (j : Nat) : w.frozen? ⟨g, j, none⟩ = false :=
  World.ownsRow.frozenAt (h.head : w.ownsRow W0.world.heap.size e size (.slice (some ⟨g, 0, none⟩) n cap) n xs) j
theorem Own.range {W0 : Base} {w : World} {e size g n cap : Nat} {xs : List Value} {L : List Rw} (h : Own W0 w (⟨e, size, .slice (some ⟨g, 0, none⟩) n cap, n, xs⟩ :: L)) (o k : Nat) : w.rangeAt g o ((xs.drop o).take k) := by
  intro j v hj
  have hl : xs.length = n * size := h.len
  have hj' : j < k := by
    rcases Nat.lt_or_ge j k with h1 | h1
    · exact h1
    · rw [List.getElem?_eq_none (by simp; omega)] at hj; cases hj
  rw [List.getElem?_take, if_pos hj', List.getElem?_drop] at hj
  have hlt : o + j < xs.length := by
    rcases Nat.lt_or_ge (o + j) xs.length with h1 | h1
    · exact h1
    · rw [List.getElem?_eq_none h1] at hj; cases hj
  rw [h.cell (o + j) (by omega)]
  exact hj
theorem Own.there {W0 : Base} {w : World} {e size g n cap : Nat} {xs : List Value} {L : List Rw} (h : Own W0 w (⟨e, size, .slice (some ⟨g, 0, none⟩) n cap, n, xs⟩ :: L)) (o k : Nat) (hk : o + k ≤ n * size) : w.there g o k := by
  intro j hj
  have hl : xs.length = n * size := h.len
  refine ⟨?_, h.free (o + j)⟩
  rw [h.cell (o + j) (by omega), List.getElem?_eq_getElem (by omega)]
  rfl
/-- A cell that was there before the call. -/
theorem Own.old {W0 : Base} {w : World} {L : List Rw} (h : Own W0 w L) {b o : Nat} {v : Value} (hc : W0.world.cell? ⟨b, o, none⟩ = some v) : w.cell? ⟨b, o, none⟩ = some v :=
  (h.below.cell (p := ⟨b, o, none⟩) (World.block_lt_of_cell? W0.world _ hc)).trans hc

/-- What is appended: nothing of nil, or m elements' cells that lie somewhere. -/
def Src (w : World) (x : Value) (m : Nat) (news : List Value) : Prop :=
  (x = .slice none 0 0 ∧ m = 0 ∧ news = []) ∨ ∃ ad c, x = .slice (some ad) m c ∧ (∀ j u, news[j]? = some u → w.cell? (ad.add j) = some u) ∧ ∀ u ∈ news, u.oneCell' = true

section
variable {P : Program}
theorem run_append_src {W0 : Base} {w : World} {L : List Rw} {e size n t ty : Nat} {v : Value} {xs news : List Value} (h : Own W0 w (⟨e, size, v, n, xs⟩ :: L)) (i : TypeInfo) (z : Value) (bytes : Nat) (ht : P.underlying t = some (.slice e)) (hi : P.info? e = some i) (hz : i.zero = some z)
    (hsize : i.size = size) (hby : i.bytes = bytes) (hzs : z.cells.size = size) (hpos : 0 < size) (x : Value) (m : Nat) (hsrc : Src w x m news) (hl : news.length = m * size) (h63 : n + m ≤ maxLen) (hbytes : (n + m) * bytes ≤ 140737488355328) :
    ∃ v' w', (Builtin.append_ #[t, t] ty #[v, x]).run P w = .ok v' w' ∧ Own W0 w' (⟨e, size, v', n + m, xs ++ news⟩ :: L) := by
  rcases hsrc with ⟨rfl, rfl, rfl⟩ | ⟨ad, c, rfl, hnews, h1⟩
  · refine ⟨v, w, run_append_owned_none (P := P) w W0.world.heap.size t ty e i size ht hi v n xs h.head, by simpa using h⟩
  · obtain ⟨v', w', hr, h2, h3, _, h5⟩ := run_append_own_at (P := P) w W0.world.heap.size t ty e i z size bytes ht hi hz hsize hby hzs hpos v n xs h.head ad m c news hl hnews h1 h63 hbytes h.size
    exact ⟨v', w', hr, h.grown h2 h3 h5⟩

/-- append at a step of a region that draws its order. -/
theorem step_append_src {ops : Array Oper} {o : Oper} {a : Act} {w : World} {K : Act → World → Prop} {Q : Exit → Act → World → Prop} {E : Prop} (hgd : o.guard = none) (s x : Operand) (t : TypeId)
    (ho : o.op = .call { callee := .builtin .append, args := #[s, x], argTypes := #[t, t] }) {W0 : Base} {L : List Rw} {e size : Nat} (v : Value) (n : Nat) (xs : List Value) (xv : Value) (m : Nat) (news : List Value) (hs : a.eval s = v) (hx : a.eval x = xv) (h : Own W0 w (⟨e, size, v, n, xs⟩ :: L)) (i : TypeInfo) (z : Value) (bytes : Nat) (ht : P.underlying t = some (.slice e)) (hi : P.info? e = some i) (hz : i.zero = some z)
    (hsize : i.size = size) (hby : i.bytes = bytes) (hzs : z.cells.size = size) (hpos : 0 < size) (hsrc : Src w xv m news) (hl : news.length = m * size) (h63 : n + m ≤ maxLen) (hbytes : (n + m) * bytes ≤ 140737488355328)
    (hK : ∀ v' w', Own W0 w' (⟨e, size, v', n + m, xs ++ news⟩ :: L) → K (a.put o.dst v') w') :
    if Region.wanted o (yielded ops a.tmps) = true then Oper.wp P o a w K Q else E := by
  have hw : Region.wanted o (yielded ops a.tmps) = true := by simp [Region.wanted, hgd]
  rw [if_pos hw]
  obtain ⟨v', w', hr, h2⟩ := run_append_src (P := P) (ty := o.type) h i z bytes ht hi hz hsize hby hzs hpos xv m hsrc hl h63 hbytes
  unfold Oper.wp
  simp [execOp, ho, resolve, invoke, builtin, hs, hx, hr, Result.andThen]
  exact hK _ _ h2

/-- append in a plain region. -/
theorem wpList_append_src {ops : Array Oper} {rest : List Oper} {o : Oper} {a : Act} {w : World} {Q : Exit → Act → World → Prop} (hgd : o.guard = none) (s x : Operand) (t : TypeId)
    (ho : o.op = .call { callee := .builtin .append, args := #[s, x], argTypes := #[t, t] }) {W0 : Base} {L : List Rw} {e size : Nat} (v : Value) (n : Nat) (xs : List Value) (xv : Value) (m : Nat) (news : List Value) (hs : a.eval s = v) (hx : a.eval x = xv) (h : Own W0 w (⟨e, size, v, n, xs⟩ :: L)) (i : TypeInfo) (z : Value) (bytes : Nat) (ht : P.underlying t = some (.slice e)) (hi : P.info? e = some i) (hz : i.zero = some z)
    (hsize : i.size = size) (hby : i.bytes = bytes) (hzs : z.cells.size = size) (hpos : 0 < size) (hsrc : Src w xv m news) (hl : news.length = m * size) (h63 : n + m ≤ maxLen) (hbytes : (n + m) * bytes ≤ 140737488355328)
    (hK : ∀ v' w', Own W0 w' (⟨e, size, v', n + m, xs ++ news⟩ :: L) → wpList P ops Q rest (a.put o.dst v') w') : wpList P ops Q (o :: rest) a w := by
  refine wpList_plain hgd fun K hk => ?_
  obtain ⟨v', w', hr, h2⟩ := run_append_src (P := P) (ty := o.type) h i z bytes ht hi hz hsize hby hzs hpos xv m hsrc hl h63 hbytes
  unfold Oper.wp
  simp [execOp, ho, resolve, invoke, builtin, hs, hx, hr, Result.andThen]
  exact hk _ _ (hK _ _ h2)
/-- A value of many cells is read, where the region's head only reads. -/
theorem wpStill_load_mid {ops : Array Oper} {rest : List Oper} {op : Oper} {a : Act} {w : World} {Q : Act → Prop} (hgd : op.guard = none) (ty : TypeId) (x : Operand) (ho : op.op = .load ty x)
    (b o : Nat) (hx : a.eval x = .pointer (some ⟨b, o, none⟩)) (cs : List Value) (d : TypeDesc) (hc : w.rangeAt b o cs)
    (hu : P.underlying ty = some d) (hd : d.isRow = true) (hi : (P.info? ty).map (·.size) = some cs.length)
    (h : wpStill P ops w Q rest (a.put op.dst (.agg cs.toArray))) : wpStill P ops w Q (op :: rest) a := by
  refine wpStill_step fun K hK => ?_
  have hw : Region.wanted op (yielded ops a.tmps) = true := by simp [Region.wanted, hgd]
  rw [if_pos hw]
  unfold Oper.still execOp
  simp only [ho, hx, Instr.loadAt, Instr.sureAddr, Sem.run_bind, Sem.run_pure, Result.andThen_ok, run_loadVar_mid w b o ty cs d hc hu hd hi]
  exact ⟨rfl, hK _ h⟩

theorem fold_splice (vs : List Value) : ∀ (cs : Array Value) (off k : Nat), ((vs.zipIdx k).foldl (fun (cs : Array Value) (x : Value × Nat) => cs.setIfInBounds (off + x.2) x.1) cs).toList = splice cs.toList (off + k) vs := by
  induction vs with
  | nil => intros; rfl
  | cons v vs ih =>
    intro cs off k
    rw [List.zipIdx_cons, List.foldl_cons, ih, splice, Array.toList_setIfInBounds]
    rfl
/-- A slice literal of one element of many cells. -/
theorem run_buildSlice_one (w : World) (t elem size : Nat) (i : TypeInfo) (z : Value) (ht : P.underlying t = some (.slice elem)) (hi : P.info? elem = some i) (hsz : i.size = size) (hz : i.zero = some z) (hzs : z.cells.size = size) (hpos : 0 < size) (hle : size ≤ 16777216)
    (cs : List Value) (hl : cs.length = size) : (Instr.buildSlice t 1 #[(0, .agg cs.toArray)]).run P w = .ok (.slice (some ⟨w.heap.size, 0, none⟩) 1 1) (w.alloc (.cells cs.toArray elem)) := by
  have hne : ¬ size = 0 := by omega
  have hng : ¬ 16777216 < size := by omega
  have hf : Instr.fill (fun i => some (i * size, size)) ((Array.range (1 * size)).map (z.cells[· % z.cells.size]!)) [(0, .agg cs.toArray)] = some cs.toArray := by
    generalize z.cells = zc at *
    have e := fold_splice cs ((Array.range (1 * size)).map (zc[· % zc.size]!)) 0 0
    rw [splice_all' _ _ (by simp; omega)] at e
    have hc : (Value.agg cs.toArray).cells = cs.toArray := rfl
    unfold Instr.fill
    simp only [hc]
    rw [if_neg (by simp; omega)]
    unfold Instr.fill
    congr 1
    apply Array.ext'
    have hz2 : cs.toArray.zipIdx = cs.zipIdx.toArray := by simp
    rw [hz2, List.foldl_toArray', Nat.zero_mul]
    · exact e
    · rfl
  unfold Instr.buildSlice
  simp [run_underlying ht, sizeOf, typeInfo, zeroValue, hi, hsz, hz, hne, hng, newRow]
  simp only [Nat.one_mul] at hf
  simp [hf]
theorem wpList_buildSlice_one {ops : Array Oper} {rest : List Oper} {op : Oper} {a : Act} {w : World} {Q : Exit → Act → World → Prop} (hgd : op.guard = none) (t : TypeId) (x : Operand) (ho : op.op = .buildSlice t 1 #[(0, x)])
    (elem size : Nat) (i : TypeInfo) (z : Value) (ht : P.underlying t = some (.slice elem)) (hi : P.info? elem = some i) (hsz : i.size = size) (hz : i.zero = some z) (hzs : z.cells.size = size) (hpos : 0 < size) (hle : size ≤ 16777216)
    (cs : List Value) (hx : a.eval x = .agg cs.toArray) (hl : cs.length = size)
    (h : wpList P ops Q rest (a.put op.dst (.slice (some ⟨w.heap.size, 0, none⟩) 1 1)) (w.alloc (.cells cs.toArray elem))) : wpList P ops Q (op :: rest) a w := by
  refine wpList_plain hgd fun K hK => ?_
  unfold Oper.wp execOp
  have hr := run_buildSlice_one (P := P) w t elem size i z ht hi hsz hz hzs hpos hle cs hl
  simp only [ho, List.map_toArray, List.map_cons, List.map_nil, hx, Sem.run_bind, hr, Result.andThen_ok, Sem.run_pure]
  exact hK _ _ h
/-- A struct, or an array, that is built, where the region's head only reads. -/
theorem wpStill_build {ops : Array Oper} {rest : List Oper} {op : Oper} {a : Act} {w : World} {Q : Act → Prop} (hgd : op.guard = none) (t : TypeId) (parts : Array (Nat × Operand)) (ho : op.op = .build t parts)
    (vals : List (Nat × Value)) (hv : (parts.toList.map fun x => (x.1, a.eval x.2)) = vals) (cells : Array Value) (hb : P.built t vals = some cells)
    (h : wpStill P ops w Q rest (a.put op.dst (.agg cells))) : wpStill P ops w Q (op :: rest) a := by
  refine wpStill_step fun K hK => ?_
  have hw : Region.wanted op (yielded ops a.tmps) = true := by simp [Region.wanted, hgd]
  rw [if_pos hw]
  subst hv
  unfold Oper.still execOp
  have hr := run_build (P := P) w t (parts.map fun x => (x.1, a.eval x.2)) cells (by rw [Array.toList_map]; exact hb)
  simp only [ho, Sem.run_bind, hr, Result.andThen_ok, Sem.run_pure]
  exact ⟨rfl, hK _ h⟩
theorem wpList_build {ops : Array Oper} {rest : List Oper} {op : Oper} {a : Act} {w : World} {Q : Exit → Act → World → Prop} (hgd : op.guard = none) (t : TypeId) (parts : Array (Nat × Operand)) (ho : op.op = .build t parts)
    (vals : List (Nat × Value)) (hv : (parts.toList.map fun x => (x.1, a.eval x.2)) = vals) (cells : Array Value) (hb : P.built t vals = some cells)
    (h : wpList P ops Q rest (a.put op.dst (.agg cells)) w) : wpList P ops Q (op :: rest) a w := by
  refine wpList_plain hgd fun K hK => ?_
  subst hv
  unfold Oper.wp execOp
  have hr := run_build (P := P) w t (parts.map fun x => (x.1, a.eval x.2)) cells (by rw [Array.toList_map]; exact hb)
  simp only [ho, Sem.run_bind, hr, Result.andThen_ok, Sem.run_pure]
  exact hK _ _ h

/-- A value of many cells is stored into a variable that was just made: behind it the variable is a row of one. -/
theorem wpList_store_new {ops : Array Oper} {rest : List Oper} {op : Oper} {a : Act} {w : World} {Q : Exit → Act → World → Prop} (hgd : op.guard = none) (ty : TypeId) (x y : Operand) (ho : op.op = .store ty x y)
    {W0 : Base} {L : List Rw} (h : Own W0 w L) {Z : Array Value} (cs : List Value) (b : Nat) (hb : b = w.heap.size) (hx : a.eval x = .pointer (some ⟨b, 0, none⟩)) (hy : a.eval y = .agg cs.toArray) (hz : Z.size = cs.length)
    (hi : (P.info? ty).map (·.size) = some cs.length) (h1 : ∀ v ∈ cs, v.oneCell' = true)
    (hK : ∀ w', Own W0 w' (⟨ty, cs.length, .slice (some ⟨b, 0, none⟩) 1 1, 1, cs⟩ :: L) → b < w'.heap.size → wpList P ops Q rest (a.put op.dst undef) w') : wpList P ops Q (op :: rest) a (w.alloc (.cells Z ty)) := by
  subst hb
  have hm := h.made ty cs.length Z 1 (by omega) (by unfold maxLen; decide)
  refine wpList_store_mid hgd ty x y ho w.heap.size 0 cs.toArray hx hy ?_ (by simpa using hi) (all_oneCell_toArray h1) (hK _ ?_ ?_)
  · have := hm.there 0 cs.length (by omega)
    simpa using this
  · have := hm.setCells cs 0
    rw [splice_all' Z.toList cs (by simpa using hz)] at this
    exact this
  · have h2 := (hm.setCells cs 0).lt (List.mem_cons_self ..) (k := w.heap.size) rfl
    exact h2.2
end
end Go.Proofs.YtdjoahhcmkedhaaGreatDoor
end

/- Rows of bytes: a slice value that reads as bytes, a row of bytes that a call made, and calls that make rows alone. -/
section
namespace Go.Proofs.YtdjoahhcmkedhaaGreatDoor
open Go.RowKit
set_option linter.unusedVariables false
set_option linter.unusedSimpArgs false

/-- Bytes as a row's cells. -/
abbrev bs (l : List Int) : List Value := l.map (Value.int .u8)
def Byts (l : List Int) : Prop := ∀ z ∈ l, 0 ≤ z ∧ z < 256
theorem Byts.append {a b : List Int} (h : Byts a) (k : Byts b) : Byts (a ++ b) := fun z hz => by
  rcases List.mem_append.1 hz with h1 | h1
  · exact h z h1
  · exact k z h1
theorem Byts.take {a : List Int} (h : Byts a) (n : Nat) : Byts (a.take n) := fun z hz => h z (List.mem_of_mem_take hz)
theorem Byts.drop {a : List Int} (h : Byts a) (n : Nat) : Byts (a.drop n) := fun z hz => h z (List.mem_of_mem_drop hz)
theorem Byts.nil : Byts [] := fun z hz => by cases hz
theorem bs_length (l : List Int) : (bs l).length = l.length := by simp [bs]
theorem bs_one (l : List Int) : ∀ u ∈ bs l, u.oneCell' = true := by
  intro u hu
  obtain ⟨z, _, rfl⟩ := List.mem_map.1 hu
  rfl
theorem bs_append (a b : List Int) : bs (a ++ b) = bs a ++ bs b := by simp [bs]

theorem ownsRow_base {w : World} {b b' : Nat} {e : TypeId} {size : Nat} {v : Value} {n : Nat} {xs : List Value} (h : w.ownsRow b e size v n xs) (hb : b' ≤ b) : w.ownsRow b' e size v n xs := by
  refine ⟨h.1, ?_⟩
  rcases h.2 with h1 | ⟨g, cap, cur, h1, h2, h3⟩
  · exact .inl h1
  · exact .inr ⟨g, cap, cur, h1, Nat.le_trans hb h2, h3⟩
/-- What a call made is owned by the caller, beside what that owns. -/
theorem Own.join {W0 : Base} {w w' : World} {L M : List Rw} (h : Own W0 w L) (k : Own w w' M) : Own W0 w' (M ++ L) := by
  have hl := h.later k.below
  refine ⟨hl.below, fun p hp => ?_, ?_, hl.maps, fun m hm p hp => ?_⟩
  · rcases List.mem_append.1 hp with h1 | h1
    · exact ownsRow_base (k.rows p h1) h.size
    · exact hl.rows p h1
  · refine List.pairwise_append.2 ⟨k.apart, h.apart, fun p hp q hq => ?_⟩
    cases hb : p.v.ownBlock with
    | none => exact .inl rfl
    | some b =>
      right
      intro e
      have h1 : w.heap.size ≤ b := (k.lt hp hb).1
      have h2 := (h.lt hq e.symm).2
      omega
  · rcases List.mem_append.1 hp with h1 | h1
    · intro e
      have h2 := (k.lt h1 e).1
      have h3 := lt_of_heap (h.maps m hm).2
      have h4 : w.heap.size ≤ m.1 := h2
      omega
    · exact hl.offmaps m hm p h1
theorem Own.drewN {W0 : Base} {w : World} {L : List Rw} (h : Own W0 w L) {n : Nat} : Own W0 (w.drewN n) L :=
  ⟨h.below.trans ⟨rfl, rfl, rfl, Nat.le_refl _, fun _ _ => rfl⟩, fun p hp => h.rows p hp, h.apart, h.maps, h.offmaps⟩
/-- A row's value: so many elements, within a capacity. -/
theorem Own.sized {W0 : Base} {w : World} {e size n : Nat} {v : Value} {xs : List Value} {L : List Rw} (h : Own W0 w (⟨e, size, v, n, xs⟩ :: L)) : ∃ a c, v = .slice a n c ∧ n ≤ c ∧ c ≤ maxLen := by
  rcases h.head.2 with ⟨h2, h3⟩ | ⟨g, cp, cur, h2, _, _, h3, h4, _⟩
  · have h2' : v = .slice none 0 0 := h2
    have h3' : n = 0 := h3
    subst h3'
    exact ⟨_, _, h2', Nat.le_refl _, Nat.zero_le _⟩
  · exact ⟨_, _, h2, h3, h4⟩
theorem Own.src' {W0 : Base} {w : World} {e size n : Nat} {v : Value} {xs : List Value} {L : List Rw} (h : Own W0 w (⟨e, size, v, n, xs⟩ :: L)) (h1 : ∀ u ∈ xs, u.oneCell' = true) : Src w v n xs := by
  by_cases hn : n = 0
  · subst hn
    have hl := h.len
    have hx : xs = [] := by
      apply List.eq_nil_of_length_eq_zero
      have : xs.length = 0 * size := hl
      omega
    subst hx
    rcases h.head.2 with ⟨h2, _⟩ | ⟨g, cp, cur, h2, _⟩
    · exact .inl ⟨h2, rfl, rfl⟩
    · exact .inr ⟨_, cp, h2, fun j u hj => by simp at hj, h1⟩
  · obtain ⟨g, cap, rfl, _⟩ := h.form (by omega)
    refine .inr ⟨_, cap, rfl, fun j u hj => ?_, h1⟩
    have hl : xs.length = n * size := h.len
    have hlt : j < xs.length := by
      rcases Nat.lt_or_ge j xs.length with h2 | h2
      · exact h2
      · rw [List.getElem?_eq_none h2] at hj; cases hj
    rw [Addr.add_mid, Nat.zero_add, h.cell j (by omega)]
    exact hj

/-- A slice value that reads as bytes. -/
def By (w : World) (v : Value) (zs : List Int) : Prop :=
  Src w v zs.length (bs zs) ∧ Byts zs ∧ ∃ a c, v = .slice a zs.length c ∧ zs.length ≤ c ∧ c ≤ maxLen
/-- A row of bytes of the call's own. -/
def rowU (v : Value) (zs : List Int) : Rw := ⟨5, 1, v, zs.length, bs zs⟩
theorem Src.later {w w' : World} {v : Value} {m : Nat} {news : List Value} (h : Src w v m news) (hb : Below w.heap.size w w') : Src w' v m news := by
  rcases h with h | ⟨ad, c, hv, hc, h1⟩
  · exact .inl h
  · exact .inr ⟨ad, c, hv, fun j u hj => (hb.cell (p := ad.add j) (World.block_lt_of_cell? w _ (hc j u hj))).trans (hc j u hj), h1⟩
theorem By.later {w w' : World} {v : Value} {zs : List Int} (h : By w v zs) (hb : Below w.heap.size w w') : By w' v zs := ⟨h.1.later hb, h.2.1, h.2.2⟩
theorem By.drew {w : World} {v : Value} {zs : List Int} (h : By w v zs) : By w.drew v zs := h
theorem By.nil (w : World) : By w (.slice none 0 0) [] := ⟨.inl ⟨rfl, rfl, rfl⟩, Byts.nil, none, 0, rfl, Nat.le_refl _, Nat.zero_le _⟩
theorem Own.by {W0 : Base} {w : World} {v : Value} {zs : List Int} {L : List Rw} (h : Own W0 w (rowU v zs :: L)) (hz : Byts zs) : By w v zs := by
  have h' : Own W0 w (⟨5, 1, v, zs.length, bs zs⟩ :: L) := h
  exact ⟨h'.src' (bs_one zs), hz, h'.sized⟩
theorem Own.only {W0 : Base} {w : World} {L : List Rw} (h : Own W0 w L) {r : Rw} (hm : r ∈ L) : Own W0 w [r] := ⟨h.below, fun p hp => by rw [List.mem_singleton.1 hp]; exact h.rows r hm, List.pairwise_singleton _ _, h.maps, fun m hq p hp => by rw [List.mem_singleton.1 hp]; exact h.offmaps m hq r hm⟩
theorem By.cells {w : World} {v : Value} {zs : List Int} (h : By w v zs) (hne : 0 < zs.length) : ∃ g o c, v = .slice (some ⟨g, o, none⟩) zs.length c ∧ zs.length ≤ c ∧ c ≤ maxLen ∧ ∀ j (hj : j < zs.length), w.cell? ⟨g, o + j, none⟩ = some (.int .u8 zs[j]) := by
  obtain ⟨hs, hz, a, c, hv, h1, h2⟩ := h
  rcases hs with ⟨_, h0, _⟩ | ⟨ad, c', hv', hc, _⟩
  · omega
  · rw [hv] at hv'
    injection hv' with e1 e2 e3
    subst e1 e3
    obtain ⟨b, off, spot⟩ := ad
    have hc0 := hc 0 (.int .u8 zs[0]) (by simp [bs, hne])
    have hspot : spot = none := by simpa [Addr.add] using World.cell?_spot hc0
    subst hspot
    refine ⟨b, off, c, hv, h1, h2, fun j hj => ?_⟩
    have := hc j (.int .u8 zs[j]) (by simp [bs, hj])
    rwa [Addr.add_mid] at this
theorem wf_byte {n : Int} (h : (Lit.int .u8 n).wf = true) : 0 ≤ n ∧ n < 256 := by
  have h1 : IntKind.u8.min = 0 := rfl
  have h2 : IntKind.u8.max = 255 := rfl
  simp only [Lit.wf, Bool.and_eq_true, decide_eq_true_eq] at h
  omega
/-- A slice of bytes that came in. -/
theorem by_arg (w : World) (x : Addr) (len cap : Nat) (zs : List Int) (hl : len ≤ cap) (hm : cap ≤ maxLen) (hz : zs.length = cap) (hcell : ∀ i, i < zs.length → w.cell? (x.add i) = some (.int .u8 (zs.getD i 0))) (hwz : ∀ n ∈ zs, (Lit.int .u8 n).wf = true) :
    By w (.slice (some x) len cap) (zs.take len) := by
  have e : (zs.take len).length = len := by rw [List.length_take]; omega
  refine ⟨?_, fun n hn => wf_byte (hwz n (List.mem_of_mem_take hn)), some x, cap, by rw [e], by rw [e]; exact hl, hm⟩
  rw [e]
  refine .inr ⟨x, cap, rfl, fun j u hj => ?_, bs_one _⟩
  have hlt : j < len := by
    rcases Nat.lt_or_ge j len with h3 | h3
    · exact h3
    · rw [List.getElem?_eq_none (by rw [bs_length, e]; exact h3)] at hj; cases hj
  rw [hcell j (by omega), ← hj]
  simp [bs, List.getElem?_take, hlt, List.getD_eq_getElem?_getD, List.getElem?_eq_getElem (show j < zs.length by omega)]
/-- The number's four bytes. -/
def le4 (n : Int) : List Int := [n % 256, n / 256 % 256, n / 65536 % 256, n / 16777216]
theorem le4_byts (n : Int) (h0 : 0 ≤ n) (h1 : n < 4294967296) : Byts (le4 n) := by
  intro z hz
  simp only [le4, List.mem_cons, List.not_mem_nil, or_false] at hz
  rcases hz with rfl | rfl | rfl | rfl <;> omega
/-- The bytes of a text. -/
def sb (s : ByteArray) : List Int := s.data.toList.map fun x => (x.toNat : Int)
theorem sb_length (s : ByteArray) : (sb s).length = s.size := by simp [sb]
theorem sb_byts (s : ByteArray) : Byts (sb s) := by
  intro z hz
  obtain ⟨x, _, rfl⟩ := List.mem_map.1 hz
  have := x.toNat_lt
  omega
end Go.Proofs.YtdjoahhcmkedhaaGreatDoor
end

/- Paths as plain data: names, the pieces between slashes, whether a text is a path, and its names. Of no program. -/
section
namespace Go.Proofs.YtdjoahhcmkedhaaGreatDoor
open Go.RowKit
set_option linter.unusedVariables false
set_option linter.unusedSimpArgs false

/-- A text's bytes, and the text that bytes are. -/
abbrev toB (l : List UInt8) : ByteArray := ⟨l.toArray⟩
theorem toB_bytes (s : ByteArray) : toB s.data.toList = s := rfl
theorem toB_size (l : List UInt8) : (toB l).size = l.length := by simp [ByteArray.size]
theorem toB_inj {a b : List UInt8} (h : toB a = toB b) : a = b := by
  have := congrArg (fun s : ByteArray => s.data.toList) h
  simpa using this

def letB (c : UInt8) : Bool := decide (97 ≤ c.toNat ∧ c.toNat ≤ 122 ∨ 48 ≤ c.toNat ∧ c.toNat ≤ 57 ∨ c.toNat = 45 ∨ c.toNat = 46 ∨ c.toNat = 95)
def letR (r : Int) : Bool := decide (97 ≤ r ∧ r ≤ 122 ∨ 48 ≤ r ∧ r ≤ 57 ∨ r = 45 ∨ r = 46 ∨ r = 95)
theorem letR_low (c : UInt8) : letR (c.toNat : Int) = letB c := by
  unfold letR letB
  rw [Bool.eq_iff_iff, decide_eq_true_iff, decide_eq_true_iff]; omega
theorem letR_high (r : Int) (h : 128 ≤ r) : letR r = false := by
  unfold letR; rw [decide_eq_false_iff_not]; omega
theorem letB_high (c : UInt8) (h : 128 ≤ c.toNat) : letB c = false := by
  unfold letB; rw [decide_eq_false_iff_not]; omega
theorem letB_slash : letB 47 = false := by decide

def nameL (l : List UInt8) : Bool := decide (1 ≤ l.length ∧ l.length ≤ 12 ∧ l ≠ [46] ∧ l ≠ [46, 46]) && l.all letB
theorem nameL_no_slash {l : List UInt8} (h : nameL l = true) : (47 : UInt8) ∉ l := by
  unfold nameL at h
  simp only [Bool.and_eq_true, List.all_eq_true] at h
  intro hm
  have := h.2 47 hm
  rw [letB_slash] at this; cases this

/-- A piece ahead of the first of pieces. -/
def glue (p : List UInt8) : List (List UInt8) → List (List UInt8)
  | [] => [p]
  | q :: r => (p ++ q) :: r
/-- The pieces between slashes. -/
def partsL : List UInt8 → List (List UInt8)
  | [] => [[]]
  | c :: l => if c = 47 then [] :: partsL l else glue [c] (partsL l)
theorem partsL_ne (l : List UInt8) : partsL l ≠ [] := by
  cases l with
  | nil => simp [partsL]
  | cons c l => unfold partsL; split <;> simp [glue]; split <;> simp
theorem glue_nil {r : List (List UInt8)} (h : r ≠ []) : glue [] r = r := by
  cases r with
  | nil => exact absurd rfl h
  | cons a r => rfl
theorem glue_glue (a b : List UInt8) (r : List (List UInt8)) : glue a (glue b r) = glue (a ++ b) r := by
  cases r <;> simp [glue]
theorem glue_length (a : List UInt8) {r : List (List UInt8)} (h : r ≠ []) : (glue a r).length = r.length := by
  cases r with
  | nil => exact absurd rfl h
  | cons b r => rfl
theorem partsL_length (l : List UInt8) : 1 ≤ (partsL l).length ∧ (partsL l).length ≤ l.length + 1 := by
  induction l with
  | nil => simp [partsL]
  | cons c l ih =>
    unfold partsL
    split
    · simp; omega
    · rw [glue_length _ (partsL_ne l)]; simp; omega
theorem parts_le (l : List UInt8) : ∀ p ∈ partsL l, p.length ≤ l.length := by
  induction l with
  | nil => simp [partsL]
  | cons c l ih =>
    unfold partsL
    split
    · intro p hp
      rcases List.mem_cons.1 hp with rfl | hp
      · simp
      · have := ih p hp; simp; omega
    · have hne := partsL_ne l
      generalize partsL l = r at *
      cases r with
      | nil => exact absurd rfl hne
      | cons q r =>
        intro p hp
        rcases List.mem_cons.1 hp with rfl | hp
        · have := ih q (List.mem_cons_self ..); simp; omega
        · have := ih p (List.mem_cons_of_mem _ hp); simp; omega
theorem splitK_parts (l : List UInt8) : Lib.splitK [47] 0 (Lib.count l [47]) l = partsL l := by
  have main : ∀ (c : UInt8) (l : List UInt8), c ≠ 47 → ∀ k, Lib.splitK [47] 0 k (c :: l) = glue [c] (Lib.splitK [47] 0 k l) := by
    intro c l hc k
    cases k with
    | zero => rfl
    | succ k =>
      have hp : ([47] : List UInt8).isPrefixOf (c :: l) = false := by simp [List.isPrefixOf, Ne.symm hc]
      have hix : Lib.index (c :: l) [47] = if Lib.index l [47] == -1 then -1 else Lib.index l [47] + 1 := by rw [Lib.index, hp]; simp
      by_cases hm : Lib.index l [47] = -1
      · unfold Lib.splitK
        rw [hix, hm]; rfl
      · have hge := Lib.index_ge l [47]
        obtain ⟨j, hj⟩ : ∃ j : Nat, Lib.index l [47] = j := ⟨(Lib.index l [47]).toNat, by omega⟩
        have h1 : ¬ ((j : Int) == -1) = true := fun e => by have := beq_iff_eq.1 e; omega
        have h2 : ¬ ((j : Int) + 1 == -1) = true := fun e => by have := beq_iff_eq.1 e; omega
        unfold Lib.splitK
        rw [hix, hj, if_neg h1, if_neg h2]
        have e1 : ((j : Int) + 1).toNat = j + 1 := by omega
        rw [e1]
        simp only [Int.toNat_natCast, Nat.add_zero, List.length_singleton, List.take_succ_cons, List.drop_succ_cons, glue, h1]
        rfl
  induction l with
  | nil => rw [Lib.count_miss (by simp [Lib.index])]; rfl
  | cons c l ih =>
    by_cases hc : c = 47
    · subst hc
      rw [Lib.count_cons_eq, Nat.add_comm]
      have hix : Lib.index (47 :: l) [47] = 0 := by rw [Lib.index]; simp [List.isPrefixOf]
      unfold Lib.splitK partsL
      rw [hix, if_pos rfl, ← ih]; rfl
    · rw [Lib.count_cons_ne c 47 l hc, main c l hc, ih]
      unfold partsL
      rw [if_neg hc]
      cases l <;> rfl

/-- Whether a text is a path, and its names. -/
def okP (l : List UInt8) : Bool := decide (l = [47]) || (decide (l.length ≤ 40) && decide (l.head? = some 47) && decide ((partsL l.tail).length ≤ 5) && (partsL l.tail).all nameL)
def namesL (l : List UInt8) : List (List UInt8) := if l = [47] then [] else if okP l then partsL l.tail else []

theorem splitB_parts (s sep : ByteArray) (h : sep = toB [47]) : Lib.splitB sep 0 (Lib.countB s sep) s = (partsL s.data.toList).map toB := by
  subst h
  have h1 := Lib.splitB_data (toB [47]) 0 (Lib.countB s (toB [47])) s
  have h2 : Lib.countB s (toB [47]) = Lib.count s.data.toList [47] := rfl
  rw [h2] at h1 ⊢
  rw [splitK_parts] at h1
  rw [← h1, List.map_map]
  exact (List.map_id' _).symm
end Go.Proofs.YtdjoahhcmkedhaaGreatDoor
end

/- 'letter' and 'Name' of package path, and the reference's 'Name': each tells 'letR', 'nameL'. -/
section
namespace Go.Proofs.YtdjoahhcmkedhaaGreatDoor
open Go.RowKit
set_option linter.unusedVariables false
set_option linter.unusedSimpArgs false

theorem letR_yes {r : Int} (h : 97 ≤ r ∧ r ≤ 122 ∨ 48 ≤ r ∧ r ≤ 57 ∨ r = 45 ∨ r = 46 ∨ r = 95) : letR r = true := decide_eq_true h
theorem letR_no {r : Int} (h : ¬ (97 ≤ r ∧ r ≤ 122 ∨ 48 ≤ r ∧ r ≤ 57 ∨ r = 45 ∨ r = 46 ∨ r = 95)) : letR r = false := decide_eq_false h
theorem letter_any (r : Int) (w : World) : Calls Tryz.prog 94 #[.int .i32 r] w fun e w' => e = .returned (.bool (letR r)) ∧ w = w' := by
  go_enter Tryz.func94, Tryz.ntmps94
  go_wp2
  all_goals
    go_ret
    refine ⟨?_, rfl⟩
    try simp only [beq_iff_eq, beq_eq_false_iff_ne, ne_eq] at *
    first
      | (have h := letR_yes (r := r) (by omega); rw [h]; rfl)
      | (have h := letR_no (r := r) (by omega); rw [h]; rfl)

/-- The reference's Name. -/
theorem nameL_no {l : List UInt8} (h : ¬ (1 ≤ l.length ∧ l.length ≤ 12 ∧ l ≠ [46] ∧ l ≠ [46, 46])) : nameL l = false := by
  unfold nameL; rw [decide_eq_false h]; rfl
theorem nameL_yes {l : List UInt8} (h1 : 1 ≤ l.length) (h2 : l.length ≤ 12) (h3 : l ≠ [46]) (h4 : l ≠ [46, 46]) : nameL l = l.all letB := by
  unfold nameL; rw [decide_eq_true ⟨h1, h2, h3, h4⟩]; rfl
theorem letB_of (c : UInt8) : letB c = decide (97 ≤ c.toNat ∧ c.toNat ≤ 122 ∨ 48 ≤ c.toNat ∧ c.toNat ≤ 57 ∨ c.toNat = 45 ∨ c.toNat = 46 ∨ c.toNat = 95) := rfl
theorem take_all_succ (s : ByteArray) (k : Nat) (h : k < s.size) : (s.data.toList.take (k + 1)).all letB = ((s.data.toList.take k).all letB && letB s[k]) := by
  have e : s.data.toList.take (k + 1) = s.data.toList.take k ++ [s[k]] := by rw [List.take_succ_eq_append_getElem (by simpa using h)]; rfl
  rw [e]; simp
theorem all_no (s : ByteArray) (k : Nat) (h : k < s.size) (hl : letB s[k] = false) : s.data.toList.all letB = false := by
  rw [List.all_eq_false]
  exact ⟨s[k], by show s.data.toList[k]'(by simpa using h) ∈ _; exact List.getElem_mem _, by rw [hl]; decide⟩
/-- The four tests ahead. -/
theorem name_front (s : ByteArray) : (1 ≤ s.size ∧ s.size ≤ 12 ∧ (s.toList == [46]) = false ∧ (s.toList == [46, 46]) = false) ∨ nameL s.data.toList = false ∧ (s.size < 1 ∨ 12 < s.size ∨ (s.toList == [46]) = true ∧ s.size = 1 ∨ (s.toList == [46, 46]) = true ∧ s.size = 2 ∧ (s.toList == [46]) = false) := by
  have e := Lib.size_eq s
  rw [Lib.toList_data]
  generalize s.data.toList = l at *
  by_cases h1 : 1 ≤ s.size
  · by_cases h2 : s.size ≤ 12
    · by_cases h3 : l = [46]
      · refine .inr ⟨nameL_no (by simp [h3]), .inr (.inr (.inl ⟨beq_iff_eq.2 h3, by rw [e, h3]; rfl⟩))⟩
      · by_cases h4 : l = [46, 46]
        · refine .inr ⟨nameL_no (by simp [h4]), .inr (.inr (.inr ⟨beq_iff_eq.2 h4, by rw [e, h4]; rfl, by simp [h3]⟩))⟩
        · exact .inl ⟨h1, h2, by simp [h3], by simp [h4]⟩
    · exact .inr ⟨nameL_no (by omega), .inr (.inl (by omega))⟩
  · exact .inr ⟨nameL_no (by omega), .inl (by omega)⟩
theorem name_all {s : ByteArray} (h1 : 1 ≤ s.size) (h2 : s.size ≤ 12) (h3 : (s.toList == [46]) = false) (h4 : (s.toList == [46, 46]) = false) : nameL s.data.toList = s.data.toList.all letB := by
  rw [Lib.toList_data] at h3 h4
  have e := Lib.size_eq s
  exact nameL_yes (by omega) (by omega) (by simpa using h3) (by simpa using h4)
set_option maxHeartbeats 1000000 in
theorem refname_any (s : ByteArray) (w : World) (hs : s.size ≤ maxLen) : Calls Tryz.prog 86 #[.string s] w fun e w' => e = .returned (.bool (nameL s.data.toList)) ∧ w = w' := by
  unfold maxLen at hs
  rcases name_front s with ⟨h1, h2, h3, h4⟩ | ⟨hn, hh⟩
  · have HN := Lib.hid (name_all h1 h2 h3 h4)
    go_enter Tryz.func86, Tryz.ntmps86
    go_wp2
    go_loop [3] (fun i => ∃ k : Nat, k ≤ s.size ∧ i = .int .i64 k ∧ Hid ((s.data.toList.take k).all letB = true)) (fun i => s.size - (intOf i).toNat)
    case atStart => exact ⟨0, Nat.zero_le _, rfl, rfl⟩
    case round =>
      obtain ⟨k, hk, rfl, HA⟩ := hrel
      by_cases hlt : k < s.size
      · have HS := Lib.hid (take_all_succ s k hlt)
        have HF := Lib.hid (all_no s k hlt)
        have HB := Lib.hid (letB_of s[k])
        go_wp2
        all_goals
          first
          | (go_ret
             refine ⟨?_, rfl⟩
             have hL : letB s[k] = false := by
               rw [HB.out]
               refine decide_eq_false ?_
               simp only [Bool.not_eq_true', Bool.not_eq_false', beq_iff_eq, beq_eq_false_iff_ne, decide_eq_true_eq, decide_eq_false_iff_not, ne_eq] at *
               omega
             rw [HN.out, HF.out hL]; rfl)
          | (have hL : letB s[k] = true := by
               rw [HB.out]
               refine decide_eq_true ?_
               simp only [Bool.not_eq_true', Bool.not_eq_false', beq_iff_eq, beq_eq_false_iff_ne, decide_eq_true_eq, decide_eq_false_iff_not, ne_eq] at *
               omega
             go_round
             case rel => exact ⟨k + 1, by omega, by go_num, by show (s.data.toList.take (k + 1)).all letB = true; rw [HS.out, HA.out, hL]; rfl⟩
             case measure => simp [intOf]; omega)
      · have HT := Lib.hid (show s.data.toList.take k = s.data.toList from List.take_of_length_le (by rw [← Lib.size_eq]; omega))
        go_wp2
        go_ret
        refine ⟨?_, rfl⟩
        rw [HN.out, ← HT.out, HA.out]; rfl
  · rw [hn]
    rcases hh with h | h | ⟨h, h'⟩ | ⟨h, h', h''⟩
    all_goals
      go_enter Tryz.func86, Tryz.ntmps86
      go_wp2
      go_ret
      exact ⟨rfl, rfl⟩
end Go.Proofs.YtdjoahhcmkedhaaGreatDoor
end

/- 'Name' of package path: a range over a string's runes. -/
section
namespace Go.Proofs.YtdjoahhcmkedhaaGreatDoor
open Go.RowKit
set_option linter.unusedVariables false
set_option linter.unusedSimpArgs false

theorem iterPos_at {w : World} {k : Nat} {s : ByteArray} {p : Nat} (h : w.heap[k]? = some (.stringIter s p)) : w.iterPos k = p := by simp [World.iterPos, h]
set_option maxHeartbeats 2000000 in
theorem name_any (s : ByteArray) (w : World) (hs : s.size ≤ maxLen) : Calls Tryz.prog 71 #[.string s] w fun e w' => e = .returned (.bool (nameL s.data.toList)) ∧ Below w.heap.size w w' := by
  unfold maxLen at hs
  rcases name_front s with ⟨h1, h2, h3, h4⟩ | ⟨hn, hh⟩
  · have HN := Lib.hid (name_all h1 h2 h3 h4)
    have h0 : (s.toList == []) = false := by
      rw [Lib.toList_data, beq_eq_false_iff_ne]; intro e; have h5 := Lib.size_eq s; rw [e] at h5; have h6 : s.size = 0 := h5; omega
    have h00 : s.toList ≠ [] := by simpa using h0
    go_enter Tryz.func71, Tryz.ntmps71
    go_wp2
    go_loopw [4] (fun v wr => ∃ pos : Nat, pos ≤ s.size ∧ wr.heap[w.heap.size]? = some (.stringIter s pos) ∧ Below w.heap.size w wr ∧ Hid ((s.data.toList.take pos).all letB = true)) (fun _ wr => s.size - wr.iterPos w.heap.size)
    case atStart => exact ⟨0, Nat.zero_le _, World.iter_heap w s 0, (Below.refl _ _).alloc (Nat.le_refl _) _, rfl⟩
    case round =>
      obtain ⟨pos, hpos, hit, hbw, HA⟩ := hrel
      have hpos0 := iterPos_at hit
      by_cases hp : pos < s.size
      · have hit1 : ∀ q, (wr.iterAt w.heap.size s q).heap[w.heap.size]? = some (.stringIter s q) := fun q => Lib.iterAt_heap wr w.heap.size s pos q hit
        have hbw1 : ∀ q, Below w.heap.size w (wr.iterAt w.heap.size s q) := fun q => Lib.below_iterAt hbw (k := w.heap.size) (Nat.le_refl _) s q
        by_cases ha : (s[pos]'hp).toNat < 128
        · have hnx : ∀ ty, (Instr.next (.pointer (some ⟨w.heap.size, 0, none⟩)) true ty).run Tryz.prog wr = _ := fun ty => Lib.run_next_ascii_at wr w.heap.size s pos ty hit hp ha
          have hbw2 := hbw1 (pos + 1)
          have hit2 := hit1 (pos + 1)
          generalize wr.iterAt w.heap.size s (pos + 1) = W1 at *
          have HS := Lib.hid (take_all_succ s pos hp)
          have HF := Lib.hid (all_no s pos hp)
          have HL := Lib.hid (letR_low s[pos])
          by_cases hl : letB s[pos] = true
          · have HR : letR (s[pos].toNat : Int) = true := by rw [HL.out]; exact hl
            go_wp2_with (go_at_call 94; refine (letter_any _ _).mono ?_; rintro e w' ⟨rfl, rfl⟩)
            go_roundw
            case rel => exact ⟨pos + 1, by omega, hit2, hbw2, by show (s.data.toList.take (pos + 1)).all letB = true; rw [HS.out, HA.out, hl]; rfl⟩
            case measure => rw [iterPos_at hit2, hpos0]; omega
          · have HR : letR (s[pos].toNat : Int) = false := by rw [HL.out]; simpa using hl
            go_wp2_with (go_at_call 94; refine (letter_any _ _).mono ?_; rintro e w' ⟨rfl, rfl⟩)
            go_ret
            exact ⟨by rw [HN.out, HF.out (by simpa using hl)]; rfl, hbw2⟩
        · have hnx : ∀ ty, (Instr.next (.pointer (some ⟨w.heap.size, 0, none⟩)) true ty).run Tryz.prog wr = _ := fun ty => Lib.run_next_any_at wr w.heap.size s pos ty hit hp
          have HR : letR ((Utf8.decode s pos).1 : Int) = false := letR_high _ (by have := (decode_high s pos hp (by omega)).1; omega)
          have hbw2 := hbw1 (pos + (Utf8.decode s pos).2)
          generalize wr.iterAt w.heap.size s (pos + (Utf8.decode s pos).2) = W1 at *
          have HF := Lib.hid (all_no s pos hp (letB_high _ (by omega)))
          generalize (Utf8.decode s pos).1 = r at *
          go_wp2_with (go_at_call 94; refine (letter_any _ _).mono ?_; rintro e w' ⟨rfl, rfl⟩)
          go_ret
          exact ⟨by rw [HN.out, HF.out]; rfl, hbw2⟩
      · have hnx : ∀ ty, (Instr.next (.pointer (some ⟨w.heap.size, 0, none⟩)) true ty).run Tryz.prog wr = _ := fun ty => Lib.run_next_end_at wr w.heap.size s pos ty hit hp
        have HT := Lib.hid (show s.data.toList.take pos = s.data.toList from List.take_of_length_le (by rw [← Lib.size_eq]; omega))
        go_wp2
        go_ret
        exact ⟨by rw [HN.out, ← HT.out, HA.out]; rfl, hbw⟩
  · rw [hn]
    have h0 : s.toList = [] ∧ (s.toList == []) = true ∨ s.toList ≠ [] ∧ (s.toList == []) = false ∧ 1 ≤ s.size := by
      by_cases h5 : s.toList = []
      · exact .inl ⟨h5, beq_iff_eq.2 h5⟩
      · refine .inr ⟨h5, beq_eq_false_iff_ne.2 h5, ?_⟩
        rw [Lib.toList_data] at h5
        rw [Lib.size_eq]
        exact List.length_pos_iff.2 h5
    have hz : s.size = s.toList.length := by rw [Lib.toList_data]; exact Lib.size_eq s
    have HZ := Lib.hid hz
    clear hz
    rcases h0 with ⟨h5, h6⟩ | ⟨h5, h6, h7⟩
    · go_enter Tryz.func71, Tryz.ntmps71
      go_wp2
      go_ret
      exact ⟨rfl, Below.refl _ _⟩
    · by_cases h8 : (s.toList == [46]) = true
      · have h8' := beq_iff_eq.1 h8
        go_enter Tryz.func71, Tryz.ntmps71
        go_wp2
        go_ret
        exact ⟨rfl, Below.refl _ _⟩
      · have h8a : (s.toList == [46]) = false := by simpa using h8
        by_cases h9 : (s.toList == [46, 46]) = true
        · have h9' := beq_iff_eq.1 h9
          clear h8
          go_enter Tryz.func71, Tryz.ntmps71
          go_wp2
          go_ret
          exact ⟨rfl, Below.refl _ _⟩
        · have h9a : (s.toList == [46, 46]) = false := by simpa using h9
          have h10 : 12 < s.size := by
            rcases hh with h | h | ⟨h, h'⟩ | ⟨h, h', h''⟩
            · omega
            · exact h
            · rw [h8a] at h; cases h
            · rw [h9a] at h; cases h
          clear h8 h9 hh
          go_enter Tryz.func71, Tryz.ntmps71
          go_wp2
          go_ret
          exact ⟨rfl, Below.refl _ _⟩
end Go.Proofs.YtdjoahhcmkedhaaGreatDoor
end

/- Contracts of Go's library at this dump: each is the kit's compiled contract, at this dump's numbers. -/
section
namespace Go.Proofs
open Go.Shelf
def Tryz.lays156_ren : Go.Shelf.Ren := ⟨fun | 156 => 131 | 165 => 141 | 166 => 142 | 169 => 143 | 240 => 150 | 241 => 151 | 276 => 154 | 277 => 155 | n => n, fun | 31 => 68 | 9 => 9 | 3 => 3 | 4 => 4 | 0 => 0 | 20 => 20 | 72 => 187 | 76 => 191 | 70 => 185 | 37 => 36 | 75 => 190 | 127 => 195 | 164 => 202 | 5 => 5 | 80 => 193 | n => n, fun | n => n⟩
theorem Tryz.lays156 : Go.Proofs.Lays.n156 Tryz.prog Tryz.lays156_ren := {
  mixed := by kernel_rfl
  f156 := Tryz.func131.trans (congrArg some (by kernel_rfl))
  f165 := Tryz.func141.trans (congrArg some (by kernel_rfl))
  f166 := Tryz.func142.trans (congrArg some (by kernel_rfl))
  f169 := Tryz.func143.trans (congrArg some (by kernel_rfl))
  f240 := Tryz.func150.trans (congrArg some (by kernel_rfl))
  f241 := Tryz.func151.trans (congrArg some (by kernel_rfl))
  f276 := Tryz.func154.trans (congrArg some (by kernel_rfl))
  f277 := Tryz.func155.trans (congrArg some (by kernel_rfl))
  t0 := Tryz.underlying0
  a0 := Tryz.isAgg0
  z0 := Tryz.sizeOf0
  v0 := Tryz.zeroValue0
  t3 := Tryz.underlying3
  a3 := Tryz.isAgg3
  z3 := Tryz.sizeOf3
  v3 := Tryz.zeroValue3
  t4 := Tryz.underlying4
  a4 := Tryz.isAgg4
  z4 := Tryz.sizeOf4
  v4 := Tryz.zeroValue4
  t9 := Tryz.underlying9
  a9 := Tryz.isAgg9
  z9 := Tryz.sizeOf9
  v9 := Tryz.zeroValue9
  t20 := Tryz.underlying20
  a20 := Tryz.isAgg20
  z20 := Tryz.sizeOf20
  v20 := Tryz.zeroValue20
  t31 := Tryz.underlying68
  a31 := Tryz.isAgg68
  z31 := Tryz.sizeOf68
  v31 := Tryz.zeroValue68
  t37 := Tryz.underlying36
  a37 := Tryz.isAgg36
  z37 := Tryz.sizeOf36
  v37 := Tryz.zeroValue36
  t70 := Tryz.underlying185
  a70 := Tryz.isAgg185
  z70 := Tryz.sizeOf185
  v70 := Tryz.zeroValue185
  t72 := Tryz.underlying187
  a72 := Tryz.isAgg187
  z72 := Tryz.sizeOf187
  v72 := Tryz.zeroValue187
  t75 := Tryz.underlying190
  a75 := Tryz.isAgg190
  z75 := Tryz.sizeOf190
  v75 := Tryz.zeroValue190
  t76 := Tryz.underlying191
  a76 := Tryz.isAgg191
  z76 := Tryz.sizeOf191
  v76 := Tryz.zeroValue191
  t127 := Tryz.underlying195
  a127 := Tryz.isAgg195
  z127 := Tryz.sizeOf195
  v127 := Tryz.zeroValue195
  t164 := Tryz.underlying202
  a164 := Tryz.isAgg202
  z164 := Tryz.sizeOf202
  v164 := Tryz.zeroValue202 }
theorem Tryz.Builder_Extra_156 : Builder.Extra Tryz.prog Tryz.lays156_ren := {
  sizeBuilder := by kernel_rfl
  liesBuilder := by kernel_rfl
  t5 := Tryz.underlying5
  a5 := Tryz.isAgg5
  z5 := Tryz.sizeOf5
  v5 := Tryz.zeroValue5
  infoByte := by kernel_rfl
  cellsByte := by kernel_rfl
  sizeByte := by kernel_rfl
  neB5 := by decide }
open Go.RowKit in
theorem Tryz.strings_Join_none (a : Option Addr) (c : Nat) (sep : ByteArray) (w : World) :
    Calls Tryz.prog 131 #[.slice a 0 c, .string sep] w fun e w' => e = .returned (.string ⟨#[]⟩) ∧ w' = w := Any.strings_Join_none Tryz.lays156 Tryz.Builder_Extra_156 a c sep w
open Go.RowKit in
theorem Tryz.strings_Join (bk o c : Nat) (xs : List ByteArray) (sep : ByteArray) (w : World) (hcells : ∀ (j : Nat) x, xs[j]? = some x → w.cell? ⟨bk, o + j, none⟩ = some (.string x)) (hbk : bk < w.heap.size) (hN : xs.length ≤ 140737488355328) (hcap : xs.length ≤ c) (hlen : (Lib.join (xs.map (·.data.toList)) sep.data.toList).length ≤ 140737488355328) :
    Calls Tryz.prog 131 #[.slice (some ⟨bk, o, none⟩) xs.length c, .string sep] w fun e w' => e = .returned (.string ⟨(Lib.join (xs.map (·.data.toList)) sep.data.toList).toArray⟩) ∧ Below w.heap.size w w' := Any.strings_Join Tryz.lays156 Tryz.Builder_Extra_156 bk o c xs sep w hcells hbk hN hcap hlen
def Tryz.lays103_ren : Go.Shelf.Ren := ⟨fun | 103 => 69 | 210 => 92 | 206 => 112 | n => n, fun | 9 => 9 | 4 => 4 | 24 => 121 | 3 => 3 | n => n, fun | n => n⟩
theorem Tryz.lays103 : Go.Proofs.Lays.n103 Tryz.prog Tryz.lays103_ren := {
  mixed := by kernel_rfl
  f103 := Tryz.func69.trans (congrArg some (by kernel_rfl))
  f206 := Tryz.func112.trans (congrArg some (by kernel_rfl))
  f210 := Tryz.func92.trans (congrArg some (by kernel_rfl))
  t3 := Tryz.underlying3
  a3 := Tryz.isAgg3
  z3 := Tryz.sizeOf3
  v3 := Tryz.zeroValue3
  t4 := Tryz.underlying4
  a4 := Tryz.isAgg4
  z4 := Tryz.sizeOf4
  v4 := Tryz.zeroValue4
  t9 := Tryz.underlying9
  a9 := Tryz.isAgg9
  z9 := Tryz.sizeOf9
  v9 := Tryz.zeroValue9
  t24 := Tryz.underlying121
  a24 := Tryz.isAgg121
  z24 := Tryz.sizeOf121
  v24 := Tryz.zeroValue121 }
open Go.RowKit in
theorem Tryz.strings_CutPrefix (s p : ByteArray) (w : World) :
    Calls Tryz.prog 69 #[.string s, .string p] w fun e w' => e = .returned (.tuple #[.string ⟨(Lib.trimPrefix s.data.toList p.data.toList).toArray⟩, .bool (Lib.hasPrefix s.data.toList p.data.toList)]) ∧ w' = w := Any.strings_CutPrefix Tryz.lays103 s p w
def Tryz.lays189_ren : Go.Shelf.Ren := ⟨fun | 189 => 60 | 125 => 82 | 257 => 81 | 128 => 107 | 129 => 108 | 294 => 98 | 295 => 99 | 296 => 100 | 297 => 101 | 298 => 102 | 299 => 103 | 216 => 104 | 300 => 105 | 301 => 106 | 328 => 116 | 329 => 117 | 330 => 118 | 331 => 119 | 332 => 120 | 215 => 121 | 343 => 136 | n => n, fun | 28 => 33 | 3 => 3 | 46 => 130 | 0 => 0 | 51 => 129 | 53 => 157 | 4 => 4 | 183 => 149 | 182 => 148 | 131 => 44 | 5 => 5 | 9 => 9 | 218 => 164 | 222 => 168 | 228 => 180 | 229 => 181 | n => n, fun | n => n⟩
theorem Tryz.lays189 : Go.Proofs.Lays.n189 Tryz.prog Tryz.lays189_ren := {
  mixed := by kernel_rfl
  f125 := Tryz.func82.trans (congrArg some (by kernel_rfl))
  f128 := Tryz.func107.trans (congrArg some (by kernel_rfl))
  f129 := Tryz.func108.trans (congrArg some (by kernel_rfl))
  f189 := Tryz.func60.trans (congrArg some (by kernel_rfl))
  f215 := Tryz.func121.trans (congrArg some (by kernel_rfl))
  f216 := Tryz.func104.trans (congrArg some (by kernel_rfl))
  f257 := Tryz.func81.trans (congrArg some (by kernel_rfl))
  f294 := Tryz.func98.trans (congrArg some (by kernel_rfl))
  f295 := Tryz.func99.trans (congrArg some (by kernel_rfl))
  f296 := Tryz.func100.trans (congrArg some (by kernel_rfl))
  f297 := Tryz.func101.trans (congrArg some (by kernel_rfl))
  f298 := Tryz.func102.trans (congrArg some (by kernel_rfl))
  f299 := Tryz.func103.trans (congrArg some (by kernel_rfl))
  f300 := Tryz.func105.trans (congrArg some (by kernel_rfl))
  f301 := Tryz.func106.trans (congrArg some (by kernel_rfl))
  f328 := Tryz.func116.trans (congrArg some (by kernel_rfl))
  f329 := Tryz.func117.trans (congrArg some (by kernel_rfl))
  f330 := Tryz.func118.trans (congrArg some (by kernel_rfl))
  f331 := Tryz.func119.trans (congrArg some (by kernel_rfl))
  f332 := Tryz.func120.trans (congrArg some (by kernel_rfl))
  f343 := Tryz.func136.trans (congrArg some (by kernel_rfl))
  t0 := Tryz.underlying0
  a0 := Tryz.isAgg0
  z0 := Tryz.sizeOf0
  v0 := Tryz.zeroValue0
  t3 := Tryz.underlying3
  a3 := Tryz.isAgg3
  z3 := Tryz.sizeOf3
  v3 := Tryz.zeroValue3
  t4 := Tryz.underlying4
  a4 := Tryz.isAgg4
  z4 := Tryz.sizeOf4
  v4 := Tryz.zeroValue4
  t5 := Tryz.underlying5
  a5 := Tryz.isAgg5
  z5 := Tryz.sizeOf5
  v5 := Tryz.zeroValue5
  t9 := Tryz.underlying9
  a9 := Tryz.isAgg9
  z9 := Tryz.sizeOf9
  v9 := Tryz.zeroValue9
  t28 := Tryz.underlying33
  a28 := Tryz.isAgg33
  z28 := Tryz.sizeOf33
  v28 := Tryz.zeroValue33
  t46 := Tryz.underlying130
  a46 := Tryz.isAgg130
  z46 := Tryz.sizeOf130
  v46 := Tryz.zeroValue130
  t51 := Tryz.underlying129
  a51 := Tryz.isAgg129
  z51 := Tryz.sizeOf129
  v51 := Tryz.zeroValue129
  t53 := Tryz.underlying157
  a53 := Tryz.isAgg157
  z53 := Tryz.sizeOf157
  v53 := Tryz.zeroValue157
  t131 := Tryz.underlying44
  a131 := Tryz.isAgg44
  z131 := Tryz.sizeOf44
  v131 := Tryz.zeroValue44
  t182 := Tryz.underlying148
  a182 := Tryz.isAgg148
  z182 := Tryz.sizeOf148
  v182 := Tryz.zeroValue148
  t183 := Tryz.underlying149
  a183 := Tryz.isAgg149
  z183 := Tryz.sizeOf149
  v183 := Tryz.zeroValue149
  t218 := Tryz.underlying164
  a218 := Tryz.isAgg164
  z218 := Tryz.sizeOf164
  v218 := Tryz.zeroValue164
  t222 := Tryz.underlying168
  a222 := Tryz.isAgg168
  z222 := Tryz.sizeOf168
  v222 := Tryz.zeroValue168
  t228 := Tryz.underlying180
  a228 := Tryz.isAgg180
  z228 := Tryz.sizeOf180
  v228 := Tryz.zeroValue180
  t229 := Tryz.underlying181
  a229 := Tryz.isAgg181
  z229 := Tryz.sizeOf181
  v229 := Tryz.zeroValue181 }
open Go.Sort Go.RowKit in
theorem Tryz.slices_Sort_int (blk off cap : Nat) (zs : List Int) (w : World) (hH : Holds (Value.int .i64) w blk off zs.toArray) (hblk : blk < w.heap.size) (hsz : zs.length < 4611686018427387904) :
    Calls Tryz.prog 60 #[.slice (some ⟨blk, off, none⟩) zs.length cap] w fun e w' =>
      e = .returned (.tuple #[]) ∧ ∃ n os, w' = grow (putRow (Value.int .i64) (Sort.ahead w n) blk off (zs.mergeSort fun x y => decide (x ≤ y)).toArray) os := Any.slices_Sort_int Tryz.lays189 blk off cap zs w hH hblk hsz
def Tryz.lays146_ren : Go.Shelf.Ren := ⟨fun | 146 => 70 | 221 => 93 | 268 => 113 | 138 => 114 | 143 => 115 | 195 => 132 | 197 => 133 | 218 => 134 | 219 => 135 | 260 => 144 | 217 => 145 | 225 => 146 | 224 => 147 | 267 => 148 | 266 => 152 | 314 => 153 | n => n, fun | 9 => 9 | 31 => 68 | 3 => 3 | 4 => 4 | 0 => 0 | 105 => 177 | 21 => 21 | 5 => 5 | 46 => 130 | 119 => 196 | 139 => 199 | 138 => 198 | 146 => 200 | 51 => 129 | n => n, fun | 1 => 0 | 3 => 1 | 4 => 2 | n => n⟩
theorem Tryz.lays146 : Go.Proofs.Lays.n146 Tryz.prog Tryz.lays146_ren := {
  mixed := by kernel_rfl
  f138 := Tryz.func114.trans (congrArg some (by kernel_rfl))
  f143 := Tryz.func115.trans (congrArg some (by kernel_rfl))
  f146 := Tryz.func70.trans (congrArg some (by kernel_rfl))
  f195 := Tryz.func132.trans (congrArg some (by kernel_rfl))
  f197 := Tryz.func133.trans (congrArg some (by kernel_rfl))
  f217 := Tryz.func145.trans (congrArg some (by kernel_rfl))
  f218 := Tryz.func134.trans (congrArg some (by kernel_rfl))
  f219 := Tryz.func135.trans (congrArg some (by kernel_rfl))
  f221 := Tryz.func93.trans (congrArg some (by kernel_rfl))
  f224 := Tryz.func147.trans (congrArg some (by kernel_rfl))
  f225 := Tryz.func146.trans (congrArg some (by kernel_rfl))
  f260 := Tryz.func144.trans (congrArg some (by kernel_rfl))
  f266 := Tryz.func152.trans (congrArg some (by kernel_rfl))
  f267 := Tryz.func148.trans (congrArg some (by kernel_rfl))
  f268 := Tryz.func113.trans (congrArg some (by kernel_rfl))
  f314 := Tryz.func153.trans (congrArg some (by kernel_rfl))
  t0 := Tryz.underlying0
  a0 := Tryz.isAgg0
  z0 := Tryz.sizeOf0
  v0 := Tryz.zeroValue0
  t3 := Tryz.underlying3
  a3 := Tryz.isAgg3
  z3 := Tryz.sizeOf3
  v3 := Tryz.zeroValue3
  t4 := Tryz.underlying4
  a4 := Tryz.isAgg4
  z4 := Tryz.sizeOf4
  v4 := Tryz.zeroValue4
  t5 := Tryz.underlying5
  a5 := Tryz.isAgg5
  z5 := Tryz.sizeOf5
  v5 := Tryz.zeroValue5
  t9 := Tryz.underlying9
  a9 := Tryz.isAgg9
  z9 := Tryz.sizeOf9
  v9 := Tryz.zeroValue9
  t21 := Tryz.underlying21
  a21 := Tryz.isAgg21
  z21 := Tryz.sizeOf21
  v21 := Tryz.zeroValue21
  t31 := Tryz.underlying68
  a31 := Tryz.isAgg68
  z31 := Tryz.sizeOf68
  v31 := Tryz.zeroValue68
  t46 := Tryz.underlying130
  a46 := Tryz.isAgg130
  z46 := Tryz.sizeOf130
  v46 := Tryz.zeroValue130
  t51 := Tryz.underlying129
  a51 := Tryz.isAgg129
  z51 := Tryz.sizeOf129
  v51 := Tryz.zeroValue129
  t105 := Tryz.underlying177
  a105 := Tryz.isAgg177
  z105 := Tryz.sizeOf177
  v105 := Tryz.zeroValue177
  t119 := Tryz.underlying196
  a119 := Tryz.isAgg196
  z119 := Tryz.sizeOf196
  t138 := Tryz.underlying198
  a138 := Tryz.isAgg198
  z138 := Tryz.sizeOf198
  v138 := Tryz.zeroValue198
  t139 := Tryz.underlying199
  a139 := Tryz.isAgg199
  z139 := Tryz.sizeOf199
  v139 := Tryz.zeroValue199
  t146 := Tryz.underlying200
  a146 := Tryz.isAgg200
  z146 := Tryz.sizeOf200
  v146 := Tryz.zeroValue200
  g1 := by kernel_rfl
  g3 := by kernel_rfl
  g4 := by kernel_rfl }
open Go.RowKit Go.Lib in
theorem Tryz.strings_Split (s sep : ByteArray) (m : Int) (w : World) (hs : s.size < 4294967281) (hm : w.cell? ⟨0, 0, none⟩ = some (.int .i64 m)) (h1 : 1 ≤ sep.size) :
    Calls Tryz.prog 70 #[.string s, .string sep] w fun e w' =>
      e = .returned (.slice (some ⟨w.heap.size, 0, none⟩) (Lib.countB s sep + 1) (Lib.countB s sep + 1)) ∧ w' = w.alloc (.cells ((Lib.splitB sep 0 (Lib.countB s sep) s).map Value.string).toArray 9) := Any.strings_Split Tryz.lays146 (by kernel_rfl) s sep m w hs hm h1
open Go.RowKit Go.Sort in
theorem Tryz.slices_Sort_int_none (p : Option Addr) (cap : Nat) (w : World) :
    Calls Tryz.prog 60 #[.slice p 0 cap] w fun e w' => e = .returned (.tuple #[]) ∧ w' = w := Any.slices_Sort_int_none Tryz.lays189 p cap w
end Go.Proofs
end

/- 'Split' of package path: a text's names, in a row of the call's own. -/
section
namespace Go.Proofs.YtdjoahhcmkedhaaGreatDoor
open Go.RowKit
set_option linter.unusedVariables false
set_option linter.unusedSimpArgs false

/-- Texts as a row's cells; a row of texts. -/
abbrev strs (ls : List (List UInt8)) : List Value := ls.map fun l => Value.string (toB l)
abbrev rowS (v : Value) (ls : List (List UInt8)) : Rw := ⟨9, 1, v, ls.length, strs ls⟩
theorem strs_length (ls : List (List UInt8)) : (strs ls).length = ls.length := by simp [strs]
theorem strs_at (ls : List (List UInt8)) (j : Nat) (h : j < ls.length) : (strs ls)[j]? = some (.string (toB ls[j])) := by simp [strs, h]
/-- The library's own bound of bytes: whatever number. -/
def Mx (w : World) : Prop := 0 < w.heap.size ∧ ∃ m : Int, w.cell? ⟨0, 0, none⟩ = some (.int .i64 m)
theorem Mx.later {w w' : World} (h : Mx w) (hb : Below w.heap.size w w') : Mx w' := by
  obtain ⟨h1, m, h2⟩ := h
  exact ⟨Nat.lt_of_lt_of_le h1 hb.size, m, by rw [hb.cell (p := ⟨0, 0, none⟩) h1]; exact h2⟩
theorem Mx.own {W0 : Base} {w : World} {L : List Rw} (h : Mx W0.world) (hO : Own W0 w L) : Mx w := h.later hO.below

/-- strings.Split between slashes. -/
theorem split_slash (s : ByteArray) (w : World) (hs : s.size ≤ 1000000) (hm : Mx w) : Calls Tryz.prog 70 #[.string s, .string ⟨#[47]⟩] w fun e w' =>
    e = .returned (.slice (some ⟨w.heap.size, 0, none⟩) (partsL s.data.toList).length (partsL s.data.toList).length) ∧ w' = w.alloc (.cells (strs (partsL s.data.toList)).toArray 9) := by
  obtain ⟨_, m, h2⟩ := hm
  have hsz : (⟨#[47]⟩ : ByteArray).size = 1 := rfl
  refine (Tryz.strings_Split s ⟨#[47]⟩ m w (by omega) h2 (by rw [hsz]; exact Nat.le_refl _)).mono ?_
  rintro e w' ⟨rfl, rfl⟩
  have h3 := splitB_parts s ⟨#[47]⟩ rfl
  have h4 := Lib.splitB_all ⟨#[47]⟩ (by rw [hsz]; exact Nat.le_refl _) 0 (Lib.countB s ⟨#[47]⟩) s rfl
  rw [h3] at h4
  rw [List.length_map] at h4
  rw [h3, ← h4, List.map_map]
  exact ⟨rfl, rfl⟩

theorem cut_pre (s p : ByteArray) (w : World) : Calls Tryz.prog 69 #[.string s, .string p] w fun e w' => e = .returned (.tuple #[.string ⟨(Lib.trimPrefix s.data.toList p.data.toList).toArray⟩, .bool (Lib.hasPrefix s.data.toList p.data.toList)]) ∧ w = w' :=
  (Tryz.strings_CutPrefix s p w).mono fun _ _ ⟨h1, h2⟩ => ⟨h1, h2.symm⟩
theorem name_list (l : List UInt8) (w : World) (hl : l.length ≤ 1000000) : Calls Tryz.prog 71 #[.string (toB l)] w fun e w' => e = .returned (.bool (nameL l)) ∧ Below w.heap.size w w' :=
  name_any (toB l) w (by rw [toB_size]; unfold maxLen; omega)
theorem Own.str {W0 : Base} {w : World} {g c : Nat} {ls : List (List UInt8)} {L : List Rw} (h : Own W0 w (rowS (.slice (some ⟨g, 0, none⟩) ls.length c) ls :: L)) (k : Nat) (hk : k < ls.length) : w.cell? ⟨g, k, none⟩ = some (.string (toB ls[k])) := by
  rw [h.cell k (by omega)]; exact strs_at ls k hk
def SplitPost (w : World) (l : List UInt8) (e : Ending) (w' : World) : Prop := ∃ v, e = .returned (.tuple #[v, .bool (okP l)]) ∧ Own w w' [rowS v (namesL l)]
theorem splitPost_no {w w' : World} {l : List UInt8} (h : okP l = false) (hb : Below w.heap.size w w') : SplitPost w l (.returned (.tuple #[.slice none 0 0, .bool false])) w' := by
  refine ⟨_, by rw [h], ?_⟩
  have h1 : namesL l = [] := by
    unfold namesL; rw [h]; split <;> rfl
  rw [h1]
  exact (Own.of_below hb).nil _ _
theorem okP_no_pre {l : List UInt8} (h1 : l ≠ [47]) (h : Lib.hasPrefix l [47] = false ∨ 40 < l.length) : okP l = false := by
  unfold okP
  rw [decide_eq_false h1]
  rcases h with h | h
  · have h2 : ¬ l.head? = some 47 := by
      intro e
      cases l with
      | nil => cases e
      | cons c l => simp at e; subst e; simp [Lib.hasPrefix, List.isPrefixOf] at h
    rw [decide_eq_false h2]; simp
  · rw [decide_eq_false (show ¬ l.length ≤ 40 by omega)]; simp
theorem okP_pre {l : List UInt8} (h1 : l ≠ [47]) (h2 : Lib.hasPrefix l [47] = true) (h3 : l.length ≤ 40) : okP l = (decide ((partsL l.tail).length ≤ 5) && (partsL l.tail).all nameL) ∧ Lib.trimPrefix l [47] = l.tail := by
  have h4 : l.head? = some 47 := by
    cases l with
    | nil => simp [Lib.hasPrefix, List.isPrefixOf] at h2
    | cons c l => simp [Lib.hasPrefix, List.isPrefixOf] at h2; simp [h2]
  refine ⟨?_, ?_⟩
  · unfold okP; rw [decide_eq_false h1, decide_eq_true h3, decide_eq_true h4]; simp
  · unfold Lib.trimPrefix; rw [h2]; simp
theorem all_take_succ {α : Type} (f : α → Bool) (ls : List α) (k : Nat) (h : k < ls.length) : (ls.take (k + 1)).all f = ((ls.take k).all f && f ls[k]) := by
  rw [List.take_succ_eq_append_getElem h, List.all_append, List.all_cons, List.all_nil, Bool.and_true]
theorem all_at_no {α : Type} (f : α → Bool) (ls : List α) (k : Nat) (h : k < ls.length) (hf : f ls[k] = false) : ls.all f = false := by
  rw [List.all_eq_false]
  exact ⟨ls[k], List.getElem_mem _, by rw [hf]; decide⟩
set_option maxHeartbeats 2000000 in
theorem split_any (s : ByteArray) (w : World) (hs : s.size ≤ maxLen) (hm : Mx w) : Calls Tryz.prog 36 #[.string s] w (SplitPost w s.data.toList) := by
  unfold maxLen at hs
  have hz : s.data.toList.length = s.size := (Lib.size_eq s).symm
  by_cases h1 : s.toList = [47]
  · have h1' : (s.toList == [47]) = true := beq_iff_eq.2 h1
    have hl : s.data.toList = [47] := by rw [← Lib.toList_data]; exact h1
    have HP := Lib.hid (show SplitPost w s.data.toList (.returned (.tuple #[.slice none 0 0, .bool true])) w from by
      rw [hl]; exact ⟨_, rfl, (Own.start w).nil _ _⟩)
    clear hl hz
    go_enter Tryz.func36, Tryz.ntmps36
    go_wp2
    go_ret2
    exact HP.out
  have h1' : (s.toList == [47]) = false := beq_eq_false_iff_ne.2 h1
  have h1l : s.data.toList ≠ [47] := by rw [← Lib.toList_data]; exact h1
  by_cases h2 : Lib.hasPrefix s.data.toList [47] = true
  · by_cases h3 : s.size ≤ 40
    · obtain ⟨h4, h5⟩ := okP_pre h1l h2 (by omega)
      have hlen := partsL_length s.data.toList.tail
      have htl : s.data.toList.tail.length ≤ 40 := by rw [List.length_tail]; omega
      have hnm : namesL s.data.toList = if okP s.data.toList then partsL s.data.toList.tail else [] := by unfold namesL; rw [if_neg h1l]
      have hsp := split_slash (toB s.data.toList.tail)
      have hts : (toB s.data.toList.tail).size ≤ 1000000 := by rw [toB_size]; omega
      have hsp : ∀ w, Mx w → Calls Tryz.prog 70 #[.string ⟨(Lib.trimPrefix s.data.toList [47]).toArray⟩, .string ⟨#[47]⟩] w fun e w' => e = .returned (.slice (some ⟨w.heap.size, 0, none⟩) (partsL s.data.toList.tail).length (partsL s.data.toList.tail).length) ∧ w' = w.alloc (.cells (strs (partsL s.data.toList.tail)).toArray 9) := by
        intro w hm; rw [h5]; exact hsp w hts hm
      have HP := Lib.hid h4
      have HQ := Lib.hid hnm
      have HL := Lib.hid (show ∀ p ∈ partsL s.data.toList.tail, p.length ≤ 40 from fun p hp => Nat.le_trans (parts_le _ p hp) htl)
      have hlen40 : (partsL s.data.toList.tail).length ≤ 41 := by omega
      clear hnm hlen h4 h5 hts h1l hz htl
      generalize s.data.toList.tail = rest at *
      generalize hls : partsL rest = ls at *
      clear hls
      by_cases h6 : ls.length ≤ 5
      · go_enter Tryz.func36, Tryz.ntmps36
        go_wp2_with (first
          | (go_at_call 69; refine (cut_pre _ _ _).mono ?_; rintro e w' ⟨rfl, rfl⟩)
          | (go_at_call 70; refine (hsp _ hm).mono ?_; rintro e w' ⟨rfl, rfl⟩))
        go_loopw [30] (fun i wr => ∃ k : Nat, k ≤ ls.length ∧ i = .int .i64 k ∧ Own w wr [rowS (.slice (some ⟨w.heap.size, 0, none⟩) ls.length ls.length) ls] ∧ Hid ((ls.take k).all nameL = true)) (fun i _ => ls.length - (intOf i).toNat)
        case atStart => exact ⟨0, Nat.zero_le _, rfl, by have := (Own.start w).made 9 1 (strs ls).toArray ls.length (by simp [strs]) (by unfold maxLen; omega); simpa using this, rfl⟩
        case round =>
          obtain ⟨k, hk, rfl, hO, HA⟩ := hrel
          by_cases hlt : k < ls.length
          · have hc := hO.str k hlt
            have HS := Lib.hid (all_take_succ nameL ls k hlt)
            have HF := Lib.hid (all_at_no nameL ls k hlt)
            have hl1 := HL.out ls[k] (List.getElem_mem _)
            have HC := name_list ls[k]
            generalize ls[k] = l at *
            by_cases hn : nameL l = true
            · go_wp2_with (go_at_call 71; refine (HC _ (by omega)).mono ?_; rintro e w' ⟨rfl, hb⟩)
              have hO2 := hO.later hb
              go_roundw
              case rel => exact ⟨k + 1, by omega, by go_num, hO2, by show (ls.take (k + 1)).all nameL = true; rw [HS.out, HA.out, hn]; rfl⟩
              case measure => simp [intOf]; omega
            · have hn' : nameL l = false := by simpa using hn
              clear hn
              go_wp2_with (go_at_call 71; refine (HC _ (by omega)).mono ?_; rintro e w' ⟨rfl, hb⟩)
              have hO2 := hO.later hb
              go_ret2
              exact splitPost_no (by rw [HP.out, HF.out hn']; simp) hO2.below
          · have HT := Lib.hid (show ls.take k = ls from List.take_of_length_le (by omega))
            have HE := Lib.hid (show okP s.data.toList = true from by rw [HP.out, ← HT.out, HA.out, HT.out, decide_eq_true h6]; rfl)
            have HG := Lib.hid (show SplitPost w s.data.toList (.returned (.tuple #[.slice (some ⟨w.heap.size, 0, none⟩) ls.length ls.length, .bool true])) wr from ⟨_, by rw [HE.out], by rw [HQ.out, HE.out]; exact hO⟩)
            clear HT HA HP HQ HL hO
            go_wp2
            go_ret2
            exact HG.out
      · have HN := Lib.hid (show okP s.data.toList = false from by rw [HP.out, decide_eq_false h6]; rfl)
        go_enter Tryz.func36, Tryz.ntmps36
        go_wp2_with (first
          | (go_at_call 69; refine (cut_pre _ _ _).mono ?_; rintro e w' ⟨rfl, rfl⟩)
          | (go_at_call 70; refine (hsp _ hm).mono ?_; rintro e w' ⟨rfl, rfl⟩))
        go_ret2
        exact splitPost_no HN.out ((Below.refl _ _).alloc (Nat.le_refl _) _)
    · have HN := Lib.hid (okP_no_pre h1l (.inr (by omega)))
      clear h1l hz
      go_enter Tryz.func36, Tryz.ntmps36
      go_wp2_with (go_at_call 69; refine (cut_pre _ _ _).mono ?_; rintro e w' ⟨rfl, rfl⟩)
      go_ret2
      exact splitPost_no HN.out (Below.refl _ _)
  · have h2' : Lib.hasPrefix s.data.toList [47] = false := by simpa using h2
    have HN := Lib.hid (okP_no_pre h1l (.inl h2'))
    clear h1l hz
    go_enter Tryz.func36, Tryz.ntmps36
    go_wp2_with (go_at_call 69; refine (cut_pre _ _ _).mono ?_; rintro e w' ⟨rfl, rfl⟩)
    go_ret2
    exact splitPost_no HN.out (Below.refl _ _)
end Go.Proofs.YtdjoahhcmkedhaaGreatDoor
end

/- The world's shape gives the library's own bound. -/
section
namespace Go.Proofs.YtdjoahhcmkedhaaGreatDoor
open Go.RowKit
theorem mx_of {W : World} (h : W.ShapedOpen Tryz.prog) : Mx W := by
  obtain ⟨m, hm⟩ : ∃ m, W.cell? ⟨0, 0, none⟩ = some (.int .i64 m) := cell_of_shapedOpen_int (zero := #[.int .i64 0]) (t := 3) (k := .i64) h (of_decide_eq_true (by kernel_rfl)) (by kernel_rfl) rfl (by kernel_rfl) (by kernel_rfl) (by kernel_rfl)
  exact ⟨World.block_lt_of_cell? W _ hm, m, hm⟩
end Go.Proofs.YtdjoahhcmkedhaaGreatDoor
end
