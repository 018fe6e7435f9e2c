/- Texts one behind the other, each in a section of its own: what calls make of memory, step by step. -/
import Derived.Handed
import Derived.Stop.Joined
import Derived.WalkKit
import Derived.OwnWalk
import Derived.Below
import Derived.IntWalk
import Derived.Maps.AppendAt
import Derived.Laws.OwnMore
import Derived.Laws.AppendOwnNone
import Derived.Deep.RegionLaw
import Derived.Deep.MidRow
import Derived.StillTailTactics
import Derived.Laws.Tables
import Derived.Test.YtkhnkidggcjfeaaGreatDoorProg
import Derived.WalkLawsBesides
import Derived.Outline
import Derived.Lib.Hide
import Derived.Deep.RegionHeld3
import Derived.Laws.BitsAllLaws
import Derived.Deep.DrawnRows
set_option linter.unusedVariables false
set_option linter.unusedSimpArgs false
set_option maxRecDepth 100000
section
namespace Go.Proofs.YtkhnkidggcjfeaaGreatDoor
theorem handed_laid_shaped {H : Type} {enc : TypeId × Value → H} {a : Assume} {C : Checked} {os : Os} {f : FuncId} {fn : Func} {s : ChangeSpec} {conds : List PathCond} {apart fresh handsOn again : Bool} {X : World → Array Value → Prop}
    (keep : ∀ (w w' : World) (args : Array Value), w.heap = w'.heap → X w args → X w' args)
    (own : ownKnob C.prog.godebug = none) (started : os.Started) (noInit : C.prog.inits.idxOf? f = none) (hfn : C.prog.funcs[f]? = some fn)
    (witness : ∃ (w : World) (tape : Tape) (i : Input), w.os = os ∧ (w.forCall tape i).Shaped C.prog ∧ i.vars = [] ∧ Input.okWide C.prog (w.forCall tape i) .any w.heap.size f i ∧
      ((s.pre enc C.prog fn conds apart (w.forCall tape i).memory i.args ∧ X (w.forCall tape i).memory i.args) ∧ sizedMet enc C.prog fn (OpenSpec.ofChange s) apart (w.forCall tape i).memory i.args) ∧ a.holds C.prog (lone (Frame.enter C.prog f i.args .normal) [] (w.forCall tape i)))
    (contract : ∀ (W : World) (base : Nat) (args : Array Value) (ds gs : List (DataW H)) (before : List MemPlace),
      (∀ (j : Nat) t v, fn.params[j]? = some t → args[j]? = some v → Value.okWide C.prog W .any base t v) →
      DataW.Whole enc C.prog fn.params.toList s.vars apart W args.toList ds gs before →
      conds.all (PathCond.test C.prog ⟨fn.params.toList, ds, s.plain.varTypes C.prog, gs⟩) = true → X W args → W.ShapedOpen C.prog →
      Calls C.prog f args W fun e W' => ∃ v, e = .returned v ∧ s.post enc C.prog fn apart fresh handsOn again W args v W') :
    ReturnsInHanded a C os f .any (fun w args => (s.pre enc C.prog fn conds apart w args ∧ X w args) ∧ sizedMet enc C.prog fn (OpenSpec.ofChange s) apart w args) (s.post enc C.prog fn apart fresh handsOn again) := by
  refine returnsInHanded_of_calls own started noInit witness fun w tape i _ shape _ ok pre _ => ?_
  obtain ⟨_, _, _, fn2, hfn2, _, _, _, _, val⟩ := ok
  obtain rfl : fn2 = fn := Option.some.inj (hfn2.symm.trans hfn)
  obtain ⟨⟨⟨ds, gs, before, whole, met⟩, hx⟩, _⟩ := pre
  have done := contract (w.forCall tape i) w.heap.size i.args ds gs before val (DataW.Whole.of_heap (w' := w.forCall tape i) (by rfl) whole) met (keep _ _ _ (by rfl) hx) shape
  refine done.mono fun e W' h => ?_
  obtain ⟨v, rfl, post⟩ := h
  exact ChangeSpec.post_blind post
end Go.Proofs.YtkhnkidggcjfeaaGreatDoor
end
section
namespace Go.Proofs.YtkhnkidggcjfeaaGreatDoor
open Go.RowKit
structure Rw where
  e : TypeId
  size : Nat
  v : Value
  n : Nat
  xs : List Value
structure Base where
  world : World
  maps : List (Nat × Obj)
instance : Coe World Base := ⟨fun w => ⟨w, []⟩⟩
structure Own (W0 : Base) (w : World) (L : List Rw) : Prop where
  below : Below W0.world.heap.size W0.world w
  rows : ∀ p ∈ L, w.ownsRow W0.world.heap.size p.e p.size p.v p.n p.xs
  apart : L.Pairwise fun p q => p.v.ownBlock = none ∨ p.v.ownBlock ≠ q.v.ownBlock
  maps : ∀ m ∈ W0.maps, W0.world.heap.size ≤ m.1 ∧ w.heap[m.1]? = some m.2
  offmaps : ∀ m ∈ W0.maps, ∀ p ∈ L, p.v.ownBlock ≠ some m.1
theorem lt_of_heap {w : World} {k : Nat} {o : Obj} (h : w.heap[k]? = some o) : k < w.heap.size := by
  rcases Nat.lt_or_ge k w.heap.size with h1 | h1
  · exact h1
  · rw [Array.getElem?_eq_none h1] at h; cases h
theorem Own.start (w : World) : Own w w [] := ⟨Below.refl _ _, (fun p hp => by cases hp), List.Pairwise.nil, (fun m hm => by cases hm), (fun m hm => by cases hm)⟩
theorem Own.of_below {W0 w : World} (h : Below W0.heap.size W0 w) : Own W0 w [] := ⟨h, (fun p hp => by cases hp), List.Pairwise.nil, (fun m hm => by cases hm), (fun m hm => by cases hm)⟩
theorem Own.size {W0 : Base} {w : World} {L : List Rw} (h : Own W0 w L) : W0.world.heap.size ≤ w.heap.size := h.below.size
theorem Own.lt {W0 : Base} {w : World} {L : List Rw} (h : Own W0 w L) {p : Rw} (hp : p ∈ L) {k : Nat} (hk : p.v.ownBlock = some k) : W0.world.heap.size ≤ k ∧ k < w.heap.size := (h.rows p hp).lt k hk
theorem Own.drew {W0 : Base} {w : World} {L : List Rw} (h : Own W0 w L) : Own W0 w.drew L := ⟨h.below.drew, fun p hp => (h.rows p hp).drew, h.apart, h.maps, h.offmaps⟩
theorem Own.alloc {W0 : Base} {w : World} {L : List Rw} (h : Own W0 w L) (o : Obj) : Own W0 (w.alloc o) L :=
  ⟨h.below.alloc h.size o, fun p hp => (h.rows p hp).alloc o, h.apart, fun m hm => ⟨(h.maps m hm).1, (Below.heap_alloc _ _ _ (lt_of_heap (h.maps m hm).2)).trans (h.maps m hm).2⟩, h.offmaps⟩
theorem Own.perm {W0 : Base} {w : World} {L L' : List Rw} (h : Own W0 w L) (hp : L.Perm L') : Own W0 w L' := by
  refine ⟨h.below, fun r hr => h.rows r (hp.mem_iff.2 hr), hp.pairwise h.apart ?_, h.maps, fun m hm r hr => h.offmaps m hm r (hp.mem_iff.2 hr)⟩
  intro a b hab
  by_cases hb : b.v.ownBlock = none
  · exact .inl hb
  · rcases hab with hab | hab
    · exact .inr fun e => hb (e.trans hab)
    · exact .inr fun e => hab e.symm
theorem Own.swap {W0 : Base} {w : World} {p q : Rw} {L : List Rw} (h : Own W0 w (p :: q :: L)) : Own W0 w (q :: p :: L) := h.perm (List.Perm.swap q p L)
theorem Own.third {W0 : Base} {w : World} {p q r : Rw} {L : List Rw} (h : Own W0 w (p :: q :: r :: L)) : Own W0 w (r :: p :: q :: L) := h.perm (((List.Perm.swap r q L).cons p).trans (List.Perm.swap r p (q :: L)))
theorem Own.unthird {W0 : Base} {w : World} {p q r : Rw} {L : List Rw} (h : Own W0 w (r :: p :: q :: L)) : Own W0 w (p :: q :: r :: L) := h.perm ((List.Perm.swap p r (q :: L)).trans ((List.Perm.swap q r L).cons p))
theorem Own.fourth {W0 : Base} {w : World} {p q r s : Rw} {L : List Rw} (h : Own W0 w (p :: q :: r :: s :: L)) : Own W0 w (s :: p :: q :: r :: L) :=
  h.perm ((((List.Perm.swap s r L).cons q).trans (List.Perm.swap s q (r :: L))).cons p |>.trans (List.Perm.swap s p (q :: r :: L)))
theorem Own.unfourth {W0 : Base} {w : World} {p q r s : Rw} {L : List Rw} (h : Own W0 w (s :: p :: q :: r :: L)) : Own W0 w (p :: q :: r :: s :: L) :=
  h.perm ((((List.Perm.swap s r L).cons q).trans (List.Perm.swap s q (r :: L))).cons p |>.trans (List.Perm.swap s p (q :: r :: L))).symm
theorem Own.fifth {W0 : Base} {w : World} {p q r s t : Rw} {L : List Rw} (h : Own W0 w (p :: q :: r :: s :: t :: L)) : Own W0 w (t :: p :: q :: r :: s :: L) :=
  h.perm (((((List.Perm.swap t s L).cons r).trans (List.Perm.swap t r (s :: L))).cons q |>.trans (List.Perm.swap t q (r :: s :: L))).cons p |>.trans (List.Perm.swap t p (q :: r :: s :: L)))
theorem Own.unfifth {W0 : Base} {w : World} {p q r s t : Rw} {L : List Rw} (h : Own W0 w (t :: p :: q :: r :: s :: L)) : Own W0 w (p :: q :: r :: s :: t :: L) :=
  h.perm (((((List.Perm.swap t s L).cons r).trans (List.Perm.swap t r (s :: L))).cons q |>.trans (List.Perm.swap t q (r :: s :: L))).cons p |>.trans (List.Perm.swap t p (q :: r :: s :: L))).symm
theorem Own.tail {W0 : Base} {w : World} {p : Rw} {L : List Rw} (h : Own W0 w (p :: L)) : Own W0 w L :=
  ⟨h.below, fun r hr => h.rows r (List.mem_cons_of_mem _ hr), (List.pairwise_cons.1 h.apart).2, h.maps, fun m hm r hr => h.offmaps m hm r (List.mem_cons_of_mem _ hr)⟩
theorem Own.head {W0 : Base} {w : World} {p : Rw} {L : List Rw} (h : Own W0 w (p :: L)) : w.ownsRow W0.world.heap.size p.e p.size p.v p.n p.xs := h.rows _ (List.mem_cons_self ..)
theorem Own.nil {W0 : Base} {w : World} {L : List Rw} (h : Own W0 w L) (e size : Nat) : Own W0 w (⟨e, size, .slice none 0 0, 0, []⟩ :: L) := by
  refine ⟨h.below, fun p hp => ?_, List.pairwise_cons.2 ⟨fun q hq => .inl rfl, h.apart⟩, h.maps, fun m hm p hp => by
    rcases List.mem_cons.1 hp with rfl | hp
    · exact fun e => by cases e
    · exact h.offmaps m hm p hp⟩
  rcases List.mem_cons.1 hp with rfl | hp
  · exact World.ownsRow_nil _ _ _ _
  · exact h.rows p hp
theorem Own.made {W0 : Base} {w : World} {L : List Rw} (h : Own W0 w L) (e size : Nat) (cs : Array Value) (n : Nat) (hn : cs.size = n * size) (hm : n ≤ maxLen) :
    Own W0 (w.alloc (.cells cs e)) (⟨e, size, .slice (some ⟨w.heap.size, 0, none⟩) n n, n, cs.toList⟩ :: L) := by
  refine ⟨(h.alloc _).below, fun p hp => ?_, List.pairwise_cons.2 ⟨fun q hq => ?_, h.apart⟩, (h.alloc _).maps, fun m hm p hp => ?_⟩
  · rcases List.mem_cons.1 hp with rfl | hp
    · exact World.ownsRow_lit w cs n h.size hm hn
    · exact (h.alloc _).rows p hp
  · right
    intro e'
    have := (h.lt hq (k := w.heap.size) e'.symm).2
    omega
  · rcases List.mem_cons.1 hp with rfl | hp
    · intro e'
      have e2 : some w.heap.size = some m.1 := e'
      injection e2 with e2
      have := lt_of_heap (h.maps m hm).2
      omega
    · exact h.offmaps m hm p hp
theorem Own.made_at {W0 : Base} {w : World} {L : List Rw} (h : Own W0 w L) (e size : Nat) (cs : Array Value) (n H : Nat) (hH : H = w.heap.size) (hn : cs.size = n * size) (hm : n ≤ maxLen) :
    Own W0 (w.alloc (.cells cs e)) (⟨e, size, .slice (some ⟨H, 0, none⟩) n n, n, cs.toList⟩ :: L) := hH ▸ h.made e size cs n hn hm
theorem Own.grown {W0 : Base} {w w' : World} {e size n n' : Nat} {v v' : Value} {xs ys : List Value} {L : List Rw} (h : Own W0 w (⟨e, size, v, n, xs⟩ :: L)) (hown : w'.ownsRow W0.world.heap.size e size v' n' ys) (hgrow : w.grownBy w' v.ownBlock)
    (hat : v'.ownBlock = v.ownBlock ∨ v'.ownBlock = some w.heap.size) : Own W0 w' (⟨e, size, v', n', ys⟩ :: L) := by
  have hap := List.pairwise_cons.1 h.apart
  have hother : ∀ q ∈ L, v'.ownBlock = none ∨ v'.ownBlock ≠ q.v.ownBlock := by
    intro q hq
    rcases hat with h1 | h1
    · rw [h1]; exact hap.1 q hq
    · right
      intro e'
      have := (h.lt (List.mem_cons_of_mem _ hq) (k := w.heap.size) (by rw [← e', h1])).2
      omega
  refine ⟨h.below.grown hgrow h.size fun k hk => (h.lt (List.mem_cons_self ..) hk).1, fun p hp => ?_, List.pairwise_cons.2 ⟨fun q hq => hother q hq, hap.2⟩, fun m hm => ⟨(h.maps m hm).1, (hgrow.block m.1 (lt_of_heap (h.maps m hm).2) (fun e => h.offmaps m hm _ (List.mem_cons_self ..) e.symm)).trans (h.maps m hm).2⟩, fun m hm p hp => ?_⟩
  rcases List.mem_cons.1 hp with rfl | hp
  · exact hown
  · have hr := h.rows p (List.mem_cons_of_mem _ hp)
    refine hr.kept hgrow ?_
    by_cases hpn : p.v.ownBlock = none
    · exact .inl hpn
    · right
      rcases hap.1 p hp with h2 | h2
      · have h2' : v.ownBlock = none := h2
        rw [h2']; exact hpn
      · exact fun e' => h2 e'.symm
  · rcases List.mem_cons.1 hp with rfl | hp
    · rcases hat with h1 | h1
      · intro e'; exact h.offmaps m hm _ (List.mem_cons_self ..) (h1.symm.trans e')
      · intro e'
        have e2 := h1.symm.trans e'
        injection e2 with e2
        have := lt_of_heap (h.maps m hm).2
        omega
    · exact h.offmaps m hm p (List.mem_cons_of_mem _ hp)
theorem grownBy_of_below {w w' : World} (hb : Below w.heap.size w w') (row : Option Nat) : w.grownBy w' row := ⟨hb.os, hb.tape, hb.output, hb.size, fun k hk _ => hb.block k hk⟩
theorem Own.later {W0 : Base} {w w' : World} {L : List Rw} (h : Own W0 w L) (hb : Below w.heap.size w w') : Own W0 w' L := by
  refine ⟨h.below.trans (hb.mono h.size), fun p hp => ?_, h.apart, fun m hm => ⟨(h.maps m hm).1, (hb.block _ (lt_of_heap (h.maps m hm).2)).trans (h.maps m hm).2⟩, h.offmaps⟩
  have hr := h.rows p hp
  by_cases hpn : p.v.ownBlock = none
  · exact hr.kept (grownBy_of_below hb none) (.inl hpn)
  · exact hr.kept (grownBy_of_below hb none) (.inr hpn)
theorem Own.len {W0 : Base} {w : World} {p : Rw} {L : List Rw} (h : Own W0 w (p :: L)) : p.xs.length = p.n * p.size := h.head.1
theorem Own.set {W0 : Base} {w : World} {e size g n cap : Nat} {xs : List Value} {L : List Rw} (h : Own W0 w (⟨e, size, .slice (some ⟨g, 0, none⟩) n cap, n, xs⟩ :: L)) (j : Nat) (u : Value) :
    Own W0 (w.setCell ⟨g, j, none⟩ u) (⟨e, size, .slice (some ⟨g, 0, none⟩) n cap, n, xs.set j u⟩ :: L) := by
  have hh : w.ownsRow W0.world.heap.size e size (.slice (some ⟨g, 0, none⟩) n cap) n xs := h.head
  have hs := hh.stored j u
  exact Own.grown h hs.1 hs.2 (.inl rfl)
def splice (xs : List Value) (o : Nat) : List Value → List Value
  | [] => xs
  | v :: vs => splice (xs.set o v) (o + 1) vs
theorem splice_get (vs : List Value) : ∀ (xs : List Value) (o i : Nat), o + vs.length ≤ xs.length → (splice xs o vs)[i]? = if o ≤ i ∧ i < o + vs.length then vs[i - o]? else xs[i]? := by
  induction vs with
  | nil => intro xs o i _; rw [splice, if_neg (by simp)]
  | cons v vs ih =>
    intro xs o i hl
    simp only [List.length_cons] at hl ⊢
    rw [splice, ih _ _ _ (by rw [List.length_set]; omega)]
    by_cases h1 : o + 1 ≤ i ∧ i < o + 1 + vs.length
    · rw [if_pos h1, if_pos (by omega), show i - o = (i - (o + 1)) + 1 from by omega, List.getElem?_cons_succ]
    · rw [if_neg h1, List.getElem?_set]
      by_cases h2 : o = i
      · subst h2
        rw [if_pos rfl, if_pos (by omega), if_pos (by omega), Nat.sub_self]
        rfl
      · rw [if_neg h2, if_neg (by omega)]
theorem Own.setCells {W0 : Base} {w : World} {e size g n cap : Nat} {xs : List Value} {L : List Rw} (h : Own W0 w (⟨e, size, .slice (some ⟨g, 0, none⟩) n cap, n, xs⟩ :: L)) (vs : List Value) : ∀ (o : Nat),
    Own W0 (w.setCells g o vs) (⟨e, size, .slice (some ⟨g, 0, none⟩) n cap, n, splice xs o vs⟩ :: L) := by
  induction vs generalizing w xs with
  | nil => intro o; exact h
  | cons v vs ih => intro o; exact ih (h.set o v) (o + 1)
theorem splice_all' (zs vs : List Value) (h : zs.length = vs.length) : splice zs 0 vs = vs := by
  apply List.ext_getElem?
  intro q
  rw [splice_get _ _ _ _ (by omega)]
  by_cases hq : q < vs.length
  · rw [if_pos ⟨Nat.zero_le _, by omega⟩, Nat.sub_zero]
  · rw [if_neg (by omega), List.getElem?_eq_none (by omega), List.getElem?_eq_none (by omega)]
theorem Own.form {W0 : Base} {w : World} {e size n : Nat} {v : Value} {xs : List Value} {L : List Rw} (h : Own W0 w (⟨e, size, v, n, xs⟩ :: L)) (hn : 0 < n) : ∃ g cap, v = .slice (some ⟨g, 0, none⟩) n cap ∧ W0.world.heap.size ≤ g ∧ g < w.heap.size ∧ n ≤ cap ∧ cap ≤ maxLen := by
  rcases h.head.2 with ⟨h2, h3⟩ | ⟨g', cap', cur, h2, h3, h4, h5, h6, _⟩
  · exact absurd h3 (by simp; omega)
  · refine ⟨g', cap', h2, h3, ?_, h5, h6⟩
    exact (h.lt (List.mem_cons_self ..) (k := g') (by show Value.ownBlock v = some g'; rw [show v = _ from h2]; rfl)).2
theorem Own.cell {W0 : Base} {w : World} {e size g n cap : Nat} {xs : List Value} {L : List Rw} (h : Own W0 w (⟨e, size, .slice (some ⟨g, 0, none⟩) n cap, n, xs⟩ :: L)) (j : Nat) (hj : j < n * size) : w.cell? ⟨g, j, none⟩ = xs[j]? :=
  World.ownsRow.cellAt (h.head : w.ownsRow W0.world.heap.size e size (.slice (some ⟨g, 0, none⟩) n cap) n xs) j hj
theorem Own.free {W0 : Base} {w : World} {e size g n cap : Nat} {xs : List Value} {L : List Rw} (h : Own W0 w (⟨e, size, .slice (some ⟨g, 0, none⟩) n cap, n, xs⟩ :: L)) (j : Nat) : w.frozen? ⟨g, j, none⟩ = false :=
  World.ownsRow.frozenAt (h.head : w.ownsRow W0.world.heap.size e size (.slice (some ⟨g, 0, none⟩) n cap) n xs) j
theorem Own.range {W0 : Base} {w : World} {e size g n cap : Nat} {xs : List Value} {L : List Rw} (h : Own W0 w (⟨e, size, .slice (some ⟨g, 0, none⟩) n cap, n, xs⟩ :: L)) (o k : Nat) : w.rangeAt g o ((xs.drop o).take k) := by
  intro j v hj
  have hl : xs.length = n * size := h.len
  have hj' : j < k := by
    rcases Nat.lt_or_ge j k with h1 | h1
    · exact h1
    · rw [List.getElem?_eq_none (by simp; omega)] at hj; cases hj
  rw [List.getElem?_take, if_pos hj', List.getElem?_drop] at hj
  have hlt : o + j < xs.length := by
    rcases Nat.lt_or_ge (o + j) xs.length with h1 | h1
    · exact h1
    · rw [List.getElem?_eq_none h1] at hj; cases hj
  rw [h.cell (o + j) (by omega)]
  exact hj
theorem Own.there {W0 : Base} {w : World} {e size g n cap : Nat} {xs : List Value} {L : List Rw} (h : Own W0 w (⟨e, size, .slice (some ⟨g, 0, none⟩) n cap, n, xs⟩ :: L)) (o k : Nat) (hk : o + k ≤ n * size) : w.there g o k := by
  intro j hj
  have hl : xs.length = n * size := h.len
  refine ⟨?_, h.free (o + j)⟩
  rw [h.cell (o + j) (by omega), List.getElem?_eq_getElem (by omega)]
  rfl
def Src (w : World) (x : Value) (m : Nat) (news : List Value) : Prop :=
  (x = .slice none 0 0 ∧ m = 0 ∧ news = []) ∨ ∃ ad c, x = .slice (some ad) m c ∧ (∀ j u, news[j]? = some u → w.cell? (ad.add j) = some u) ∧ ∀ u ∈ news, u.oneCell' = true
section
variable {P : Program}
theorem run_append_src {W0 : Base} {w : World} {L : List Rw} {e size n t ty : Nat} {v : Value} {xs news : List Value} (h : Own W0 w (⟨e, size, v, n, xs⟩ :: L)) (i : TypeInfo) (z : Value) (bytes : Nat) (ht : P.underlying t = some (.slice e)) (hi : P.info? e = some i) (hz : i.zero = some z)
    (hsize : i.size = size) (hby : i.bytes = bytes) (hzs : z.cells.size = size) (hpos : 0 < size) (x : Value) (m : Nat) (hsrc : Src w x m news) (hl : news.length = m * size) (h63 : n + m ≤ maxLen) (hbytes : (n + m) * bytes ≤ 140737488355328) :
    ∃ v' w', (Builtin.append_ #[t, t] ty #[v, x]).run P w = .ok v' w' ∧ Own W0 w' (⟨e, size, v', n + m, xs ++ news⟩ :: L) := by
  rcases hsrc with ⟨rfl, rfl, rfl⟩ | ⟨ad, c, rfl, hnews, h1⟩
  · refine ⟨v, w, run_append_owned_none (P := P) w W0.world.heap.size t ty e i size ht hi v n xs h.head, by simpa using h⟩
  · obtain ⟨v', w', hr, h2, h3, _, h5⟩ := run_append_own_at (P := P) w W0.world.heap.size t ty e i z size bytes ht hi hz hsize hby hzs hpos v n xs h.head ad m c news hl hnews h1 h63 hbytes h.size
    exact ⟨v', w', hr, h.grown h2 h3 h5⟩
theorem step_append_src {ops : Array Oper} {o : Oper} {a : Act} {w : World} {K : Act → World → Prop} {Q : Exit → Act → World → Prop} {E : Prop} (hgd : o.guard = none) (s x : Operand) (t : TypeId)
    (ho : o.op = .call { callee := .builtin .append, args := #[s, x], argTypes := #[t, t] }) {W0 : Base} {L : List Rw} {e size : Nat} (v : Value) (n : Nat) (xs : List Value) (xv : Value) (m : Nat) (news : List Value) (hs : a.eval s = v) (hx : a.eval x = xv) (h : Own W0 w (⟨e, size, v, n, xs⟩ :: L)) (i : TypeInfo) (z : Value) (bytes : Nat) (ht : P.underlying t = some (.slice e)) (hi : P.info? e = some i) (hz : i.zero = some z)
    (hsize : i.size = size) (hby : i.bytes = bytes) (hzs : z.cells.size = size) (hpos : 0 < size) (hsrc : Src w xv m news) (hl : news.length = m * size) (h63 : n + m ≤ maxLen) (hbytes : (n + m) * bytes ≤ 140737488355328)
    (hK : ∀ v' w', Own W0 w' (⟨e, size, v', n + m, xs ++ news⟩ :: L) → K (a.put o.dst v') w') :
    if Region.wanted o (yielded ops a.tmps) = true then Oper.wp P o a w K Q else E := by
  have hw : Region.wanted o (yielded ops a.tmps) = true := by simp [Region.wanted, hgd]
  rw [if_pos hw]
  obtain ⟨v', w', hr, h2⟩ := run_append_src (P := P) (ty := o.type) h i z bytes ht hi hz hsize hby hzs hpos xv m hsrc hl h63 hbytes
  unfold Oper.wp
  simp [execOp, ho, resolve, invoke, builtin, hs, hx, hr, Result.andThen]
  exact hK _ _ h2
theorem wpList_append_src {ops : Array Oper} {rest : List Oper} {o : Oper} {a : Act} {w : World} {Q : Exit → Act → World → Prop} (hgd : o.guard = none) (s x : Operand) (t : TypeId)
    (ho : o.op = .call { callee := .builtin .append, args := #[s, x], argTypes := #[t, t] }) {W0 : Base} {L : List Rw} {e size : Nat} (v : Value) (n : Nat) (xs : List Value) (xv : Value) (m : Nat) (news : List Value) (hs : a.eval s = v) (hx : a.eval x = xv) (h : Own W0 w (⟨e, size, v, n, xs⟩ :: L)) (i : TypeInfo) (z : Value) (bytes : Nat) (ht : P.underlying t = some (.slice e)) (hi : P.info? e = some i) (hz : i.zero = some z)
    (hsize : i.size = size) (hby : i.bytes = bytes) (hzs : z.cells.size = size) (hpos : 0 < size) (hsrc : Src w xv m news) (hl : news.length = m * size) (h63 : n + m ≤ maxLen) (hbytes : (n + m) * bytes ≤ 140737488355328)
    (hK : ∀ v' w', Own W0 w' (⟨e, size, v', n + m, xs ++ news⟩ :: L) → wpList P ops Q rest (a.put o.dst v') w') : wpList P ops Q (o :: rest) a w := by
  refine wpList_plain hgd fun K hk => ?_
  obtain ⟨v', w', hr, h2⟩ := run_append_src (P := P) (ty := o.type) h i z bytes ht hi hz hsize hby hzs hpos xv m hsrc hl h63 hbytes
  unfold Oper.wp
  simp [execOp, ho, resolve, invoke, builtin, hs, hx, hr, Result.andThen]
  exact hk _ _ (hK _ _ h2)
theorem wpStill_load_mid {ops : Array Oper} {rest : List Oper} {op : Oper} {a : Act} {w : World} {Q : Act → Prop} (hgd : op.guard = none) (ty : TypeId) (x : Operand) (ho : op.op = .load ty x)
    (b o : Nat) (hx : a.eval x = .pointer (some ⟨b, o, none⟩)) (cs : List Value) (d : TypeDesc) (hc : w.rangeAt b o cs)
    (hu : P.underlying ty = some d) (hd : d.isRow = true) (hi : (P.info? ty).map (·.size) = some cs.length)
    (h : wpStill P ops w Q rest (a.put op.dst (.agg cs.toArray))) : wpStill P ops w Q (op :: rest) a := by
  refine wpStill_step fun K hK => ?_
  have hw : Region.wanted op (yielded ops a.tmps) = true := by simp [Region.wanted, hgd]
  rw [if_pos hw]
  unfold Oper.still execOp
  simp only [ho, hx, Instr.loadAt, Instr.sureAddr, Sem.run_bind, Sem.run_pure, Result.andThen_ok, run_loadVar_mid w b o ty cs d hc hu hd hi]
  exact ⟨rfl, hK _ h⟩
theorem fold_splice (vs : List Value) : ∀ (cs : Array Value) (off k : Nat), ((vs.zipIdx k).foldl (fun (cs : Array Value) (x : Value × Nat) => cs.setIfInBounds (off + x.2) x.1) cs).toList = splice cs.toList (off + k) vs := by
  induction vs with
  | nil => intros; rfl
  | cons v vs ih =>
    intro cs off k
    rw [List.zipIdx_cons, List.foldl_cons, ih, splice, Array.toList_setIfInBounds]
    rfl
theorem run_buildSlice_one (w : World) (t elem size : Nat) (i : TypeInfo) (z : Value) (ht : P.underlying t = some (.slice elem)) (hi : P.info? elem = some i) (hsz : i.size = size) (hz : i.zero = some z) (hzs : z.cells.size = size) (hpos : 0 < size) (hle : size ≤ 16777216)
    (cs : List Value) (hl : cs.length = size) : (Instr.buildSlice t 1 #[(0, .agg cs.toArray)]).run P w = .ok (.slice (some ⟨w.heap.size, 0, none⟩) 1 1) (w.alloc (.cells cs.toArray elem)) := by
  have hne : ¬ size = 0 := by omega
  have hng : ¬ 16777216 < size := by omega
  have hf : Instr.fill (fun i => some (i * size, size)) ((Array.range (1 * size)).map (z.cells[· % z.cells.size]!)) [(0, .agg cs.toArray)] = some cs.toArray := by
    generalize z.cells = zc at *
    have e := fold_splice cs ((Array.range (1 * size)).map (zc[· % zc.size]!)) 0 0
    rw [splice_all' _ _ (by simp; omega)] at e
    have hc : (Value.agg cs.toArray).cells = cs.toArray := rfl
    unfold Instr.fill
    simp only [hc]
    rw [if_neg (by simp; omega)]
    unfold Instr.fill
    congr 1
    apply Array.ext'
    have hz2 : cs.toArray.zipIdx = cs.zipIdx.toArray := by simp
    rw [hz2, List.foldl_toArray', Nat.zero_mul]
    · exact e
    · rfl
  unfold Instr.buildSlice
  simp [run_underlying ht, sizeOf, typeInfo, zeroValue, hi, hsz, hz, hne, hng, newRow]
  simp only [Nat.one_mul] at hf
  simp [hf]
theorem wpList_buildSlice_one {ops : Array Oper} {rest : List Oper} {op : Oper} {a : Act} {w : World} {Q : Exit → Act → World → Prop} (hgd : op.guard = none) (t : TypeId) (x : Operand) (ho : op.op = .buildSlice t 1 #[(0, x)])
    (elem size : Nat) (i : TypeInfo) (z : Value) (ht : P.underlying t = some (.slice elem)) (hi : P.info? elem = some i) (hsz : i.size = size) (hz : i.zero = some z) (hzs : z.cells.size = size) (hpos : 0 < size) (hle : size ≤ 16777216)
    (cs : List Value) (hx : a.eval x = .agg cs.toArray) (hl : cs.length = size)
    (h : wpList P ops Q rest (a.put op.dst (.slice (some ⟨w.heap.size, 0, none⟩) 1 1)) (w.alloc (.cells cs.toArray elem))) : wpList P ops Q (op :: rest) a w := by
  refine wpList_plain hgd fun K hK => ?_
  unfold Oper.wp execOp
  have hr := run_buildSlice_one (P := P) w t elem size i z ht hi hsz hz hzs hpos hle cs hl
  simp only [ho, List.map_toArray, List.map_cons, List.map_nil, hx, Sem.run_bind, hr, Result.andThen_ok, Sem.run_pure]
  exact hK _ _ h
theorem wpList_build {ops : Array Oper} {rest : List Oper} {op : Oper} {a : Act} {w : World} {Q : Exit → Act → World → Prop} (hgd : op.guard = none) (t : TypeId) (parts : Array (Nat × Operand)) (ho : op.op = .build t parts)
    (vals : List (Nat × Value)) (hv : (parts.toList.map fun x => (x.1, a.eval x.2)) = vals) (cells : Array Value) (hb : P.built t vals = some cells)
    (h : wpList P ops Q rest (a.put op.dst (.agg cells)) w) : wpList P ops Q (op :: rest) a w := by
  refine wpList_plain hgd fun K hK => ?_
  subst hv
  unfold Oper.wp execOp
  have hr := run_build (P := P) w t (parts.map fun x => (x.1, a.eval x.2)) cells (by rw [Array.toList_map]; exact hb)
  simp only [ho, Sem.run_bind, hr, Result.andThen_ok, Sem.run_pure]
  exact hK _ _ h
theorem wpList_store_new {ops : Array Oper} {rest : List Oper} {op : Oper} {a : Act} {w : World} {Q : Exit → Act → World → Prop} (hgd : op.guard = none) (ty : TypeId) (x y : Operand) (ho : op.op = .store ty x y)
    {W0 : Base} {L : List Rw} (h : Own W0 w L) {Z : Array Value} (cs : List Value) (b : Nat) (hb : b = w.heap.size) (hx : a.eval x = .pointer (some ⟨b, 0, none⟩)) (hy : a.eval y = .agg cs.toArray) (hz : Z.size = cs.length)
    (hi : (P.info? ty).map (·.size) = some cs.length) (h1 : ∀ v ∈ cs, v.oneCell' = true)
    (hK : ∀ w', Own W0 w' (⟨ty, cs.length, .slice (some ⟨b, 0, none⟩) 1 1, 1, cs⟩ :: L) → b < w'.heap.size → wpList P ops Q rest (a.put op.dst undef) w') : wpList P ops Q (op :: rest) a (w.alloc (.cells Z ty)) := by
  subst hb
  have hm := h.made ty cs.length Z 1 (by omega) (by unfold maxLen; decide)
  refine wpList_store_mid hgd ty x y ho w.heap.size 0 cs.toArray hx hy ?_ (by simpa using hi) (all_oneCell_toArray h1) (hK _ ?_ ?_)
  · have := hm.there 0 cs.length (by omega)
    simpa using this
  · have := hm.setCells cs 0
    rw [splice_all' Z.toList cs (by simpa using hz)] at this
    exact this
  · have h2 := (hm.setCells cs 0).lt (List.mem_cons_self ..) (k := w.heap.size) rfl
    exact h2.2
end
end Go.Proofs.YtkhnkidggcjfeaaGreatDoor
end
section
namespace Go.Proofs.YtkhnkidggcjfeaaGreatDoor
open Go.RowKit
structure Dk where
  kept : List (List Value)
  last : List (List Value)
  since : List (Nat × List Value)
  steps : Int
  left : Int
  keeps : Int
  down : Bool
abbrev isSec (s : List Value) : Prop := s.length = 64 ∧ ∀ v ∈ s, v.oneCell' = true
structure Dk.Ok (D : Dk) : Prop where
  pos : 0 < D.last.length
  len : D.kept.length = D.last.length
  le : D.last.length ≤ 4096
  kept : ∀ s ∈ D.kept, isSec s
  last : ∀ s ∈ D.last, isSec s
  since : ∀ p ∈ D.since, p.1 < D.last.length ∧ isSec p.2
  many : D.since.length ≤ 1000000
  steps0 : 0 ≤ D.steps
  left0 : 0 ≤ D.left
  left1 : D.left ≤ 9223372036854775807
  keeps0 : 0 ≤ D.keeps
  keeps1 : D.keeps < 18446744073709551616
def bitOf (keeps : Int) (i : Nat) : Bool := keeps.toNat.testBit (i % 64)
def keptTo (D : Dk) (keeps : Int) : Nat → List (List Value)
  | 0 => D.kept
  | i + 1 => match D.since[i]? with
    | some p => if bitOf keeps i then (keptTo D keeps i).set p.1 p.2 else keptTo D keeps i
    | none => keptTo D keeps i
def lastTo (K : List (List Value)) (D : Dk) : Nat → List (List Value)
  | 0 => D.last
  | i + 1 => match D.since[i]? with
    | some p => (lastTo K D i).set p.1 (K.getD p.1 [])
    | none => lastTo K D i
def settleM (D : Dk) (keeps : Int) : Dk := { D with kept := keptTo D keeps D.since.length, last := lastTo (keptTo D keeps D.since.length) D D.since.length, since := [] }
def planM (D : Dk) (n keeps : Int) : Dk := { D with left := max n 0, keeps := keeps }
def crashM (D : Dk) (keeps : Int) : Dk := { planM (settleM D keeps) 0 0 with down := true }
def onM (D : Dk) : Dk := { D with down := false }
def refusedM (D : Dk) (at_ : Int) : Int := if D.down then 3 else if at_ < 0 ∨ (D.last.length : Int) ≤ at_ then 2 else 0
def stepM (D : Dk) : Dk × Int :=
  let D1 := { D with steps := D.steps + 1 }
  if D.left = 0 then (D1, 0)
  else
    let D2 := { D1 with left := D.left - 1 }
    if 0 < D.left - 1 then (D2, 0) else (crashM D2 D.keeps, 3)
def putM (D : Dk) (i : Nat) (s : List Value) : Dk := { D with last := D.last.set i s, since := D.since ++ [(i, s)] }
def writeM (D : Dk) (at_ : Int) (s : List Value) : Dk × Int :=
  if refusedM D at_ ≠ 0 then (D, refusedM D at_) else stepM (putM D at_.toNat s)
def flushM (D : Dk) : Dk × Int :=
  if D.down then (D, 3)
  else
    let r := stepM D
    if r.2 ≠ 0 then r else (settleM r.1 18446744073709551615, 0)
/-! ### Lengths -/
theorem keptTo_length (D : Dk) (keeps : Int) (i : Nat) : (keptTo D keeps i).length = D.kept.length := by
  induction i with
  | zero => rfl
  | succ i ih => rw [keptTo]; split; split <;> simp [ih]; exact ih
theorem lastTo_length (K : List (List Value)) (D : Dk) (i : Nat) : (lastTo K D i).length = D.last.length := by
  induction i with
  | zero => rfl
  | succ i ih => rw [lastTo]; split <;> simp [ih]
theorem keptTo_sec (D : Dk) (h : D.Ok) (keeps : Int) (i : Nat) : ∀ s ∈ keptTo D keeps i, isSec s := by
  induction i with
  | zero => exact h.kept
  | succ i ih =>
    rw [keptTo]
    split
    · rename_i p hp
      split
      · intro s hs
        rcases List.mem_or_eq_of_mem_set hs with h1 | rfl
        · exact ih s h1
        · exact (h.since p (List.mem_of_getElem? hp)).2
      · exact ih
    · exact ih
theorem lastTo_sec (D : Dk) (h : D.Ok) (K : List (List Value)) (hK : ∀ s ∈ K, isSec s) (hl : K.length = D.last.length) (i : Nat) : ∀ s ∈ lastTo K D i, isSec s := by
  induction i with
  | zero => exact h.last
  | succ i ih =>
    rw [lastTo]
    split
    · rename_i p hp
      intro s hs
      rcases List.mem_or_eq_of_mem_set hs with h1 | rfl
      · exact ih s h1
      · have hlt := (h.since p (List.mem_of_getElem? hp)).1
        rw [List.getD_eq_getElem?_getD, List.getElem?_eq_getElem (by omega)]
        exact hK _ (List.getElem_mem _)
    · exact ih
theorem settleM_ok (D : Dk) (h : D.Ok) (keeps : Int) : (settleM D keeps).Ok := by
  refine ⟨?_, ?_, ?_, keptTo_sec D h keeps _, lastTo_sec D h _ (keptTo_sec D h keeps _) (by rw [keptTo_length, h.len]) _, (fun p hp => by cases hp), Nat.zero_le _, h.steps0, h.left0, h.left1, h.keeps0, h.keeps1⟩
  · show 0 < (lastTo _ D _).length; rw [lastTo_length]; exact h.pos
  · show (keptTo D _ _).length = (lastTo _ D _).length; rw [keptTo_length, lastTo_length, h.len]
  · show (lastTo _ D _).length ≤ _; rw [lastTo_length]; exact h.le
theorem planM_ok (D : Dk) (h : D.Ok) (n keeps : Int) (hn : n ≤ 9223372036854775807) (h0 : 0 ≤ keeps) (h1 : keeps < 18446744073709551616) : (planM D n keeps).Ok :=
  ⟨h.pos, h.len, h.le, h.kept, h.last, h.since, h.many, h.steps0, by show 0 ≤ max n 0; omega, by show max n 0 ≤ _; omega, h0, h1⟩
theorem crashM_ok (D : Dk) (h : D.Ok) (keeps : Int) : (crashM D keeps).Ok := by
  have h1 := planM_ok _ (settleM_ok D h keeps) 0 0 (by decide) (by decide) (by decide)
  exact ⟨h1.pos, h1.len, h1.le, h1.kept, h1.last, h1.since, h1.many, h1.steps0, h1.left0, h1.left1, h1.keeps0, h1.keeps1⟩
theorem stepM_ok (D : Dk) (h : D.Ok) : (stepM D).1.Ok := by
  unfold stepM
  have h0 := h.left0
  have h1 := h.left1
  have hs := h.steps0
  have ho : ∀ l : Int, 0 ≤ l → l ≤ 9223372036854775807 → ({ D with steps := D.steps + 1, left := l } : Dk).Ok := fun l a b => ⟨h.pos, h.len, h.le, h.kept, h.last, h.since, h.many, by show 0 ≤ D.steps + 1; omega, a, b, h.keeps0, h.keeps1⟩
  split
  · exact ho D.left h0 h1
  · split
    · exact ho (D.left - 1) (by omega) (by omega)
    · exact crashM_ok _ (ho (D.left - 1) (by omega) (by omega)) _
theorem putM_ok (D : Dk) (h : D.Ok) (i : Nat) (s : List Value) (hi : i < D.last.length) (hs : isSec s) (hm : D.since.length < 1000000) : (putM D i s).Ok := by
  refine ⟨?_, ?_, ?_, h.kept, ?_, ?_, ?_, h.steps0, h.left0, h.left1, h.keeps0, h.keeps1⟩
  · show 0 < (D.last.set i s).length; rw [List.length_set]; exact h.pos
  · show _ = (D.last.set i s).length; rw [List.length_set]; exact h.len
  · show (D.last.set i s).length ≤ _; rw [List.length_set]; exact h.le
  · intro t ht
    rcases List.mem_or_eq_of_mem_set ht with h1 | rfl
    · exact h.last t h1
    · exact hs
  · intro p hp
    show p.1 < (D.last.set i s).length ∧ _
    rw [List.length_set]
    rcases List.mem_append.1 hp with h1 | h1
    · exact h.since p h1
    · obtain rfl : p = (i, s) := by simpa using h1
      exact ⟨hi, hs⟩
  · show (D.since ++ [(i, s)]).length ≤ _; simp; omega
/-! ### Sectors lie one behind the other -/
theorem flat_length (k : Nat) : ∀ (L : List (List Value)), (∀ s ∈ L, s.length = k) → L.flatten.length = L.length * k
  | [], _ => by simp
  | s :: L, h => by
    rw [List.flatten_cons, List.length_append, flat_length k L (fun t ht => h t (by simp [ht])), h s (by simp), List.length_cons, Nat.succ_mul, Nat.add_comm]
theorem flat_take (k : Nat) : ∀ (L : List (List Value)), (∀ s ∈ L, s.length = k) → ∀ i (hi : i < L.length), (L.flatten.drop (i * k)).take k = L[i]
  | [], _, i, hi => by simp at hi
  | s :: L, h, 0, _ => by
    have hs := h s (by simp)
    rw [List.flatten_cons, Nat.zero_mul, List.drop_zero, List.getElem_cons_zero, ← hs, List.take_left']
    rfl
  | s :: L, h, i + 1, hi => by
    have hs := h s (by simp)
    rw [List.flatten_cons, List.getElem_cons_succ, show (i + 1) * k = s.length + i * k from by rw [hs, Nat.succ_mul, Nat.add_comm], ← List.drop_drop, List.drop_left']
    · exact flat_take k L (fun t ht => h t (by simp [ht])) i (by simpa using hi)
    · rfl
theorem flat_get (k : Nat) (hk : 0 < k) (L : List (List Value)) (h : ∀ s ∈ L, s.length = k) (i j : Nat) (hi : i < L.length) (hj : j < k) : L.flatten[i * k + j]? = (L[i])[j]? := by
  have h1 := congrArg (fun l => l[j]?) (flat_take k L h i hi)
  simp only [List.getElem?_take, if_pos hj, List.getElem?_drop] at h1
  exact h1
theorem flat_splice (k : Nat) (hk : 0 < k) (L : List (List Value)) (h : ∀ s ∈ L, s.length = k) (i : Nat) (hi : i < L.length) (s : List Value) (hs : s.length = k) : splice L.flatten (i * k) s = (L.set i s).flatten := by
  have h' : ∀ t ∈ L.set i s, t.length = k := fun t ht => by
    rcases List.mem_or_eq_of_mem_set ht with h1 | rfl
    · exact h t h1
    · exact hs
  have hl := flat_length k L h
  have hle : i * k + k ≤ L.length * k := by rw [← Nat.succ_mul]; exact Nat.mul_le_mul_right k hi
  apply List.ext_getElem?
  intro q
  rw [splice_get _ _ _ _ (by omega)]
  by_cases hq : q < L.length * k
  · have hqd : q = q / k * k + q % k := by rw [Nat.mul_comm]; exact (Nat.div_add_mod q k).symm
    have hqi : q / k < L.length := by rw [Nat.div_lt_iff_lt_mul hk]; exact hq
    have hqm : q % k < k := Nat.mod_lt _ hk
    have e2 : (L.set i s).flatten[q]? = ((L.set i s)[q / k]'(by rw [List.length_set]; exact hqi))[q % k]? := by
      conv => lhs; rw [hqd]
      exact flat_get k hk (L.set i s) h' (q / k) (q % k) (by rw [List.length_set]; exact hqi) hqm
    have e1 : L.flatten[q]? = (L[q / k])[q % k]? := by
      conv => lhs; rw [hqd]
      exact flat_get k hk L h (q / k) (q % k) hqi hqm
    rw [e2, List.getElem_set]
    by_cases hiq : i = q / k
    · rw [if_pos hiq, if_pos]
      · congr 1
        have : i * k = q / k * k := by rw [hiq]
        omega
      · have : i * k = q / k * k := by rw [hiq]
        omega
    · rw [if_neg hiq, e1, if_neg]
      intro hc
      apply hiq
      have h3 : i * k ≤ q := hc.1
      have h4 : q < (i + 1) * k := by rw [Nat.succ_mul]; omega
      have h5 : i ≤ q / k := (Nat.le_div_iff_mul_le hk).2 h3
      have h6 : q / k < i + 1 := (Nat.div_lt_iff_lt_mul hk).2 h4
      omega
  · rw [if_neg (by omega), List.getElem?_eq_none (by omega), List.getElem?_eq_none]
    rw [flat_length k _ h', List.length_set]
    omega
def wcells (p : Nat × List Value) : List Value := .int .i64 (p.1 : Int) :: p.2
end Go.Proofs.YtkhnkidggcjfeaaGreatDoor
end
section
namespace Go.Proofs.YtkhnkidggcjfeaaGreatDoor
open Go.RowKit
def dcells (kb lb : Nat) (sv : Value) (n : Nat) (D : Dk) : List Value :=
  [.slice (some ⟨kb, 0, none⟩) n n, .slice (some ⟨lb, 0, none⟩) n n, sv, .int .i64 D.steps, .int .i64 D.left, .int .u64 D.keeps, .bool D.down]
def rowD (d kb lb : Nat) (sv : Value) (n : Nat) (D : Dk) : Rw := ⟨108, 7, .slice (some ⟨d, 0, none⟩) 1 1, 1, dcells kb lb sv n D⟩
def rowK (kb n : Nat) (K : List (List Value)) : Rw := ⟨150, 64, .slice (some ⟨kb, 0, none⟩) n n, n, K.flatten⟩
def rowS (sv : Value) (S : List (Nat × List Value)) : Rw := ⟨294, 65, sv, S.length, (S.map wcells).flatten⟩
abbrev rowsOf (d kb lb : Nat) (sv : Value) (n : Nat) (D : Dk) (L : List Rw) : List Rw :=
  rowD d kb lb sv n D :: rowK kb n D.kept :: rowK lb n D.last :: rowS sv D.since :: L
def zSec : List Value := List.replicate 64 (.int .u8 0)
def zW : List Value := .int .i64 0 :: zSec
theorem zero_write (w : World) : Sem.run Tryz.prog (zeroValue 294) w = .ok (.agg zW.toArray) w := by kernel_rfl
theorem zero_sector (w : World) : Sem.run Tryz.prog (zeroValue 150) w = .ok (.agg zSec.toArray) w := by kernel_rfl
theorem info_write : (Tryz.prog.info? 294).map (·.size) = some 65 := by kernel_rfl
theorem info_sector : (Tryz.prog.info? 150).map (·.size) = some 64 := by kernel_rfl
theorem wcells_length {D : Dk} (hs : ∀ p ∈ D.since, p.1 < D.last.length ∧ isSec p.2) : ∀ s ∈ D.since.map wcells, s.length = 65 := by
  intro s h
  obtain ⟨p, hp, rfl⟩ := List.mem_map.1 h
  simp [wcells, (hs p hp).2.1]
theorem since_range {W0 : Base} {w : World} {sb cp : Nat} {D : Dk} {L : List Rw} (h : Own W0 w (rowS (.slice (some ⟨sb, 0, none⟩) D.since.length cp) D.since :: L)) (hs : ∀ p ∈ D.since, p.1 < D.last.length ∧ isSec p.2) (i : Nat) (hi : i < D.since.length) :
    w.rangeAt sb (i * 65) (wcells D.since[i]) := by
  have h1 := h.range (i * 65) 65
  rw [flat_take 65 _ (wcells_length hs) i (by simpa using hi)] at h1
  simpa using h1
theorem bit_of (keeps : Int) (i : Nat) (h0 : 0 ≤ keeps) (h1 : keeps < 18446744073709551616) : (bits BinOp.and IntKind.u64 (keeps / 2 ^ (i % 64)) 1 == 1) = bitOf keeps i := by
  obtain ⟨n, rfl⟩ := Int.eq_ofNat_of_zero_le h0
  have e : ((n : Int) / 2 ^ (i % 64)) = ((n / 2 ^ (i % 64) : Nat) : Int) := by simp
  have hlt : n / 2 ^ (i % 64) < 18446744073709551616 := Nat.lt_of_le_of_lt (Nat.div_le_self _ _) (by omega)
  rw [e, show (1 : Int) = ((1 : Nat) : Int) from rfl, u64_and_nat _ _ hlt (by decide), nat_mask1]
  unfold bitOf
  rw [Int.toNat_natCast, Nat.testBit_eq_decide_div_mod_eq]
  generalize n / 2 ^ (i % 64) % 2 = q
  rw [Bool.eq_iff_iff]
  simp
  omega
theorem keep_set {W0 : Base} {w : World} {d kb lb n : Nat} {sv : Value} {D : Dk} {L : List Rw} (h : Own W0 w (rowsOf d kb lb sv n D L)) (x : Nat) (s : List Value) (hx : x < n) (hK : ∀ t ∈ D.kept, t.length = 64) (hs : s.length = 64) (hl : D.kept.length = n) :
    Own W0 (w.drew.setCells kb (x * 64) s) (rowsOf d kb lb sv n { D with kept := D.kept.set x s } L) := by
  have h1 := (Own.setCells (h := (h.drew).swap) s (x * 64)).swap
  rw [flat_splice 64 (by decide) D.kept hK x (by omega) s hs] at h1
  exact h1
theorem last_set {W0 : Base} {w : World} {d kb lb n : Nat} {sv : Value} {D : Dk} {L : List Rw} (h : Own W0 w (rowsOf d kb lb sv n D L)) (x : Nat) (s : List Value) (hx : x < n) (hK : ∀ t ∈ D.last, t.length = 64) (hs : s.length = 64) (hl : D.last.length = n) :
    Own W0 (w.drew.setCells lb (x * 64) s) (rowsOf d kb lb sv n { D with last := D.last.set x s } L) := by
  have h1 := (Own.setCells (h := (h.drew).third) s (x * 64)).unthird
  rw [flat_splice 64 (by decide) D.last hK x (by omega) s hs] at h1
  exact h1
theorem since_nil {W0 : Base} {w : World} {d kb lb n : Nat} {sv : Value} {D : Dk} {L : List Rw} (h : Own W0 w (rowsOf d kb lb sv n D L)) :
    Own W0 (w.setCell ⟨d, 2, none⟩ (.slice none 0 0)) (rowsOf d kb lb (.slice none 0 0) n { D with since := [] } L) := by
  have h1 := (Own.set (h := h) 2 (.slice none 0 0))
  exact ((h1.fourth.tail).nil _ _).unfourth
set_option maxHeartbeats 3200000 in
set_option maxRecDepth 100000 in
theorem settle_any (W0 : Base) (w : World) (d kb lb n : Nat) (sv : Value) (D : Dk) (L : List Rw) (keeps : Int) (hO : Own W0 w (rowsOf d kb lb sv n D L)) (hD : D.Ok) (hn : n = D.last.length) (k0 : 0 ≤ keeps) (k1 : keeps < 18446744073709551616) :
    Calls Tryz.prog 221 #[.pointer (some ⟨d, 0, none⟩), .int .u64 keeps] w fun e w' => e = .returned (.tuple #[]) ∧ Own W0 w' (rowsOf d kb lb (.slice none 0 0) n (settleM D keeps) L) := by
  have hlen := hD.len
  rw [← hn] at hlen
  have Hlen := Lib.hid hlen
  clear hlen
  by_cases hs : D.since.length = 0
  · obtain ⟨a, cp, rfl⟩ : ∃ a cp, sv = .slice a 0 cp := by
      rcases (show Own W0 w (rowS sv D.since :: rowD d kb lb sv n D :: rowK kb n D.kept :: rowK lb n D.last :: L) from hO.fourth).head.2 with ⟨h2, _⟩ | ⟨g, cp, cur, h2, _⟩
      · exact ⟨_, _, h2⟩
      · exact ⟨some ⟨g, 0, none⟩, cp, by rw [show sv = _ from h2]; show Value.slice _ D.since.length _ = _; rw [hs]⟩
    have c2 : w.cell? ⟨d, 2, none⟩ = some (.slice a 0 cp) := Own.cell (h := hO) 2 (by decide)
    have f2 := Own.free (h := hO) 2
    have hE : settleM D keeps = { D with since := [] } := by unfold settleM; rw [hs]; rfl
    have HF := Lib.hid (since_nil hO)
    rw [← hE] at HF
    clear hE
    go_enter Tryz.func221, Tryz.ntmps221
    go_wp2_with fail
    refine wp_loop_rounds 1 ?_
    rw [rounds_succ]
    go_wp2_with fail
    refine wp_loop_rounds 1 ?_
    rw [rounds_succ]
    go_wp2_with fail
    go_end0
    exact ⟨rfl, HF.out⟩
  · obtain ⟨sb, cp, rfl, _, _⟩ := (show Own W0 w (rowS sv D.since :: rowD d kb lb sv n D :: rowK kb n D.kept :: rowK lb n D.last :: L) from hO.fourth).form (by omega)
    have c2 : w.cell? ⟨d, 2, none⟩ = some (.slice (some ⟨sb, 0, none⟩) D.since.length cp) := Own.cell (h := hO) 2 (by decide)
    have hzw := zero_write
    have Hn := Lib.hid hn
    clear hn
    go_enter Tryz.func221, Tryz.ntmps221
    go_wp2_with fail
    go_loopw [13] (fun t wr => ∃ i : Nat, i ≤ D.since.length ∧ t = .int .i64 i ∧ Own W0 wr (rowsOf d kb lb (.slice (some ⟨sb, 0, none⟩) D.since.length cp) n { D with kept := keptTo D keeps i } L)) (fun t _ => D.since.length - (intOf t).toNat)
    case atStart => exact ⟨0, by omega, rfl, hO⟩
    case round =>
      obtain ⟨i, hi, rfl, hO⟩ := hrel
      have hm := hD.many
      by_cases hlt : i < D.since.length
      · have hp : D.since[i]? = some D.since[i] := List.getElem?_eq_getElem hlt
        have hr := since_range hO.fourth hD.since i hlt
        have HW := hD.since _ (List.getElem_mem hlt)
        have HK := Lib.hid (show keptTo D keeps (i + 1) = if bitOf keeps i then (keptTo D keeps i).set D.since[i].1 D.since[i].2 else keptTo D keeps i by rw [keptTo, hp])
        generalize D.since[i] = p at *
        obtain ⟨x, s⟩ := p
        clear hp
        obtain ⟨hx, hs64, hs1⟩ := HW
        rw [← Hn.out] at hx
        have hwl : (wcells (x, s)).length = 65 := by simp [wcells, hs64]
        have hw1 : ∀ v ∈ wcells (x, s), v.oneCell' = true := by
          intro v hv
          rcases List.mem_cons.1 hv with rfl | hv
          · rfl
          · exact hs1 v hv
        have hiw : (Tryz.prog.info? 294).map (·.size) = some (wcells (x, s)).length := by rw [hwl]; exact info_write
        have Hwl := Lib.hid hwl
        have Hw1 := Lib.hid hw1
        have Hs1 := Lib.hid hs1
        have Hs64 := Lib.hid hs64
        clear hwl hw1 hs1 hs64
        go_wp2_with (first
          | (refine wpList_load_mid rfl 294 (.tmp 16) rfl sb (i * 65) rfl (wcells (x, s)) _ hr Tryz.underlying294 rfl hiw ?_)
          | (refine wpList_store_new rfl 294 (.tmp 5) (.tmp 17) rfl hO (wcells (x, s)) wr.heap.size rfl rfl rfl ?hz hiw Hw1.out ?_))
        case hz => rw [Hwl.out]; rfl
        intro w2 hO2 hH
        have hOt := hO2.tail
        cases hb : bitOf keeps i
        · rw [hb, if_neg (by decide)] at HK
          have hb1 : (bits BinOp.and IntKind.u64 (keeps / 2 ^ (i % 64)) 1 == 1) = false := by rw [bit_of keeps i k0 k1]; exact hb
          clear hb
          go_wp2_with fail
          go_roundw
          case rel => exact ⟨i + 1, by omega, by go_num, by rw [HK.out]; exact hOt⟩
          case measure => simp [intOf]; omega
        · rw [hb, if_pos rfl] at HK
          have hb1 : (bits BinOp.and IntKind.u64 (keeps / 2 ^ (i % 64)) 1 == 1) = true := by rw [bit_of keeps i k0 k1]; exact hb
          have c0 : w2.cell? ⟨d, 0, none⟩ = some (.slice (some ⟨kb, 0, none⟩) n n) := Own.cell (h := hOt) 0 (by decide)
          have cx : w2.cell? ⟨wr.heap.size, 0, none⟩ = some (.int .i64 (x : Int)) := Own.cell (h := hO2) 0 (by rw [Hwl.out]; decide)
          have cs : w2.rangeAt wr.heap.size 1 s := by
            have h1 := hO2.range 1 64
            have h2 : ((wcells (x, s)).drop 1).take 64 = s := by rw [show (wcells (x, s)).drop 1 = s from rfl, ← Hs64.out, List.take_length]
            rw [h2] at h1
            exact h1
          have ck : w2.there kb (x * 64) 64 := Own.there (h := hOt.swap) (x * 64) 64 (by show x * 64 + 64 ≤ n * 64; omega)
          have his : (Tryz.prog.info? 150).map (·.size) = some s.length := by rw [Hs64.out]; exact info_sector
          have hu39 := Tryz.underlying150
          have hs64 := Hs64.out
          have hs1 := Hs1.out
          have hN := keep_set hOt x s (by omega) (fun t ht => (keptTo_sec D hD keeps i t ht).1) Hs64.out (by rw [keptTo_length]; exact Hlen.out)
          have HN := Lib.hid hN
          have hx0 : (0 : Int) ≤ (x : Int) := by omega
          have hx1 : (x : Int) < (n : Int) := by omega
          clear hb hN
          go_wp2_with fail
          go_still_tail 9, (by kernel_rfl)
          refine wpStill_load_mid rfl 150 (.tmp 30) rfl wr.heap.size 1 rfl s _ cs Tryz.underlying150 rfl his ?_
          repeat still_step
          refine wpStill_nil ?_
          change wpList _ _ _ _ _ w2.drew
          refine wpList_store_mid rfl 150 (.tmp 32) (.tmp 31) rfl kb (x * 64) s.toArray rfl rfl ?_ ?_ (all_oneCell_toArray hs1) ?_
          · simpa [hs64] using ck
          · simpa using his
          go_wp2_with fail
          go_roundw
          case rel => exact ⟨i + 1, by omega, by go_num, by rw [HK.out]; exact HN.out⟩
          case measure => simp [intOf]; omega
      · obtain rfl : i = D.since.length := by omega
        have hKs := keptTo_sec D hD keeps D.since.length
        have hKl := keptTo_length D keeps D.since.length
        have HE := Lib.hid (show settleM D keeps = { D with kept := keptTo D keeps D.since.length, last := lastTo (keptTo D keeps D.since.length) D D.since.length, since := [] } from rfl)
        generalize keptTo D keeps D.since.length = K at *
        rw [Hlen.out] at hKl
        have hls := lastTo_sec D hD K hKs (hKl.trans Hn.out)
        clear c2
        have c2 : wr.cell? ⟨d, 2, none⟩ = some (.slice (some ⟨sb, 0, none⟩) D.since.length cp) := Own.cell (h := hO) 2 (by decide)
        have HKs := Lib.hid hKs
        have HKl := Lib.hid hKl
        have Hls := Lib.hid hls
        clear hKs hKl hls
        go_wp2_with fail
        clear c2
        go_loopw [39] (fun t wr => ∃ i : Nat, i ≤ D.since.length ∧ t = .int .i64 i ∧ Own W0 wr (rowsOf d kb lb (.slice (some ⟨sb, 0, none⟩) D.since.length cp) n { D with kept := K, last := lastTo K D i } L)) (fun t _ => D.since.length - (intOf t).toNat)
        case atStart => exact ⟨0, by omega, rfl, hO⟩
        case round =>
          obtain ⟨i, hi, rfl, hO⟩ := hrel
          by_cases hlt : i < D.since.length
          · have hp : D.since[i]? = some D.since[i] := List.getElem?_eq_getElem hlt
            have hr := since_range hO.fourth hD.since i hlt
            have HW := hD.since _ (List.getElem_mem hlt)
            have HK := Lib.hid (show lastTo K D (i + 1) = (lastTo K D i).set D.since[i].1 (K.getD D.since[i].1 []) by rw [lastTo, hp])
            generalize D.since[i] = p at *
            obtain ⟨x, s⟩ := p
            clear hp
            obtain ⟨hx, hs64, hs1⟩ := HW
            rw [← Hn.out] at hx
            have hwl : (wcells (x, s)).length = 65 := by simp [wcells, hs64]
            have hw1 : ∀ v ∈ wcells (x, s), v.oneCell' = true := by
              intro v hv
              rcases List.mem_cons.1 hv with rfl | hv
              · rfl
              · exact hs1 v hv
            have hiw : (Tryz.prog.info? 294).map (·.size) = some (wcells (x, s)).length := by rw [hwl]; exact info_write
            have Hwl := Lib.hid hwl
            have Hw1 := Lib.hid hw1
            have hgd : K.getD x [] = K[x]'(by have := HKl.out; omega) := by rw [List.getD_eq_getElem?_getD, List.getElem?_eq_getElem (by have := HKl.out; omega)]; rfl
            have hks : isSec (K.getD x []) := by rw [hgd]; exact HKs.out _ (List.getElem_mem _)
            have Hgd := Lib.hid hgd
            have Hks := Lib.hid hks
            clear hwl hw1 hs1 hs64 hgd hks
            go_wp2_with (first
              | (refine wpList_load_mid rfl 294 (.tmp 41) rfl sb (i * 65) rfl (wcells (x, s)) _ hr Tryz.underlying294 rfl hiw ?_)
              | (refine wpList_store_new rfl 294 (.tmp 7) (.tmp 42) rfl hO (wcells (x, s)) wr.heap.size rfl rfl rfl ?hz2 hiw Hw1.out ?_))
            case hz2 => rw [Hwl.out]; rfl
            intro w2 hO2 hH
            have hOt := hO2.tail
            have c0 : w2.cell? ⟨d, 0, none⟩ = some (.slice (some ⟨kb, 0, none⟩) n n) := Own.cell (h := hOt) 0 (by decide)
            have c1 : w2.cell? ⟨d, 1, none⟩ = some (.slice (some ⟨lb, 0, none⟩) n n) := Own.cell (h := hOt) 1 (by decide)
            have cx : w2.cell? ⟨wr.heap.size, 0, none⟩ = some (.int .i64 (x : Int)) := Own.cell (h := hO2) 0 (by rw [Hwl.out]; decide)
            have cs : w2.rangeAt kb (x * 64) (K.getD x []) := by
              have h1 := Own.range (h := hOt.swap) (x * 64) 64
              rw [flat_take 64 K (fun t ht => (HKs.out t ht).1) x (by have := HKl.out; omega), ← Hgd.out] at h1
              exact h1
            have ck : w2.there lb (x * 64) 64 := Own.there (h := hOt.third) (x * 64) 64 (by show x * 64 + 64 ≤ n * 64; omega)
            have hN := last_set hOt x (K.getD x []) (by omega) (fun t ht => (Hls.out i t ht).1) Hks.out.1 (by rw [lastTo_length]; exact Hn.out.symm)
            have HN := Lib.hid hN
            have his : (Tryz.prog.info? 150).map (·.size) = some (K.getD x []).length := by rw [Hks.out.1]; exact info_sector
            generalize K.getD x [] = s2 at *
            have hs64 := Hks.out.1
            have hs1 := Hks.out.2
            have hu39 := Tryz.underlying150
            have hx0 : (0 : Int) ≤ (x : Int) := by omega
            have hx1 : (x : Int) < (n : Int) := by omega
            clear hN
            go_wp2_with fail
            go_still_tail 15, (by kernel_rfl)
            refine wpStill_load_mid rfl 150 (.tmp 55) rfl kb (x * 64) rfl s2 _ cs Tryz.underlying150 rfl his ?_
            repeat still_step
            refine wpStill_nil ?_
            change wpList _ _ _ _ _ w2.drew
            refine wpList_store_mid rfl 150 (.tmp 57) (.tmp 56) rfl lb (x * 64) s2.toArray rfl rfl ?_ ?_ (all_oneCell_toArray hs1) ?_
            · simpa [hs64] using ck
            · simpa using his
            go_wp2_with fail
            go_roundw
            case rel => exact ⟨i + 1, by omega, by go_num, by rw [HK.out]; exact HN.out⟩
            case measure => simp [intOf]; omega
          · obtain rfl : i = D.since.length := by omega
            have f2 := Own.free (h := hO) 2
            have c2 : wr.cell? ⟨d, 2, none⟩ = some (.slice (some ⟨sb, 0, none⟩) D.since.length cp) := Own.cell (h := hO) 2 (by decide)
            have HF := Lib.hid (since_nil hO)
            rw [← HE.out] at HF
            go_wp2_with fail
            go_end0
            exact ⟨rfl, HF.out⟩
end Go.Proofs.YtkhnkidggcjfeaaGreatDoor
end
section
namespace Go.Proofs.YtkhnkidggcjfeaaGreatDoor
open Go.RowKit
def DkAt (W0 : Base) (w : World) (d : Nat) (D : Dk) (L : List Rw) : Prop :=
  D.Ok ∧ ∃ (kb lb n : Nat) (sv : Value), n = D.last.length ∧ Own W0 w (rowsOf d kb lb sv n D L)
theorem DkAt.alloc {W0 : Base} {w : World} {d : Nat} {D : Dk} {L : List Rw} (h : DkAt W0 w d D L) (o : Obj) : DkAt W0 (w.alloc o) d D L := by
  obtain ⟨h1, kb, lb, n, sv, h2, h3⟩ := h; exact ⟨h1, kb, lb, n, sv, h2, h3.alloc o⟩
theorem DkAt.drew {W0 : Base} {w : World} {d : Nat} {D : Dk} {L : List Rw} (h : DkAt W0 w d D L) : DkAt W0 w.drew d D L := by
  obtain ⟨h1, kb, lb, n, sv, h2, h3⟩ := h; exact ⟨h1, kb, lb, n, sv, h2, h3.drew⟩
theorem DkAt.later {W0 : Base} {w w' : World} {d : Nat} {D : Dk} {L : List Rw} (h : DkAt W0 w d D L) (hb : Below w.heap.size w w') : DkAt W0 w' d D L := by
  obtain ⟨h1, kb, lb, n, sv, h2, h3⟩ := h; exact ⟨h1, kb, lb, n, sv, h2, h3.later hb⟩
theorem DkAt.ok {W0 : Base} {w : World} {d : Nat} {D : Dk} {L : List Rw} (h : DkAt W0 w d D L) : D.Ok := h.1
section
variable {W0 : Base} {w : World} {d kb lb n : Nat} {sv : Value} {D : Dk} {L : List Rw}
theorem own_c1 (h : Own W0 w (rowsOf d kb lb sv n D L)) : w.cell? ⟨d, 1, none⟩ = some (.slice (some ⟨lb, 0, none⟩) n n) := Own.cell (h := h) 1 (by decide)
theorem own_c2 (h : Own W0 w (rowsOf d kb lb sv n D L)) : w.cell? ⟨d, 2, none⟩ = some sv := Own.cell (h := h) 2 (by decide)
theorem own_c3 (h : Own W0 w (rowsOf d kb lb sv n D L)) : w.cell? ⟨d, 3, none⟩ = some (.int .i64 D.steps) := Own.cell (h := h) 3 (by decide)
theorem own_c4 (h : Own W0 w (rowsOf d kb lb sv n D L)) : w.cell? ⟨d, 4, none⟩ = some (.int .i64 D.left) := Own.cell (h := h) 4 (by decide)
theorem own_c5 (h : Own W0 w (rowsOf d kb lb sv n D L)) : w.cell? ⟨d, 5, none⟩ = some (.int .u64 D.keeps) := Own.cell (h := h) 5 (by decide)
theorem own_c6 (h : Own W0 w (rowsOf d kb lb sv n D L)) : w.cell? ⟨d, 6, none⟩ = some (.bool D.down) := Own.cell (h := h) 6 (by decide)
theorem own_f (h : Own W0 w (rowsOf d kb lb sv n D L)) (j : Nat) : w.frozen? ⟨d, j, none⟩ = false := Own.free (h := h) j
theorem own_s3 (h : Own W0 w (rowsOf d kb lb sv n D L)) (x : Int) : Own W0 (w.setCell ⟨d, 3, none⟩ (.int .i64 x)) (rowsOf d kb lb sv n { D with steps := x } L) := Own.set (h := h) 3 _
theorem own_s4 (h : Own W0 w (rowsOf d kb lb sv n D L)) (x : Int) : Own W0 (w.setCell ⟨d, 4, none⟩ (.int .i64 x)) (rowsOf d kb lb sv n { D with left := x } L) := Own.set (h := h) 4 _
theorem own_s5 (h : Own W0 w (rowsOf d kb lb sv n D L)) (x : Int) : Own W0 (w.setCell ⟨d, 5, none⟩ (.int .u64 x)) (rowsOf d kb lb sv n { D with keeps := x } L) := Own.set (h := h) 5 _
theorem own_s6 (h : Own W0 w (rowsOf d kb lb sv n D L)) (x : Bool) : Own W0 (w.setCell ⟨d, 6, none⟩ (.bool x)) (rowsOf d kb lb sv n { D with down := x } L) := Own.set (h := h) 6 _
end
theorem plan_any (W0 : Base) (w : World) (d : Nat) (D : Dk) (L : List Rw) (m keeps : Int) (h : DkAt W0 w d D L) (hm : m ≤ 9223372036854775807) (k0 : 0 ≤ keeps) (k1 : keeps < 18446744073709551616) :
    Calls Tryz.prog 246 #[.pointer (some ⟨d, 0, none⟩), .int .i64 m, .int .u64 keeps] w fun e w' => e = .returned (.tuple #[]) ∧ DkAt W0 w' d (planM D m keeps) L := by
  obtain ⟨hD, kb, lb, n, sv, hn, hO⟩ := h
  have c4 := own_c4 hO
  have c5 := own_c5 hO
  have f4 := own_f hO 4
  have f5 := own_f hO 5
  have hF := own_s5 (own_s4 hO (max m 0)) keeps
  have HF := Lib.hid hF
  have Hok := Lib.hid (planM_ok D hD m keeps hm k0 k1)
  have Hn := Lib.hid hn
  have hmx : (if 0 < m then m else 0) = max m 0 := by omega
  have hmy : (if 0 > m then 0 else m) = max m 0 := by omega
  clear hF hD hO hn
  go_enter Tryz.func246, Tryz.ntmps246
  go_wp2_with fail
  go_end0
  exact ⟨rfl, Hok.out, kb, lb, n, sv, Hn.out, HF.out⟩
theorem crash_any (W0 : Base) (w : World) (d : Nat) (D : Dk) (L : List Rw) (keeps : Int) (h : DkAt W0 w d D L) (k0 : 0 ≤ keeps) (k1 : keeps < 18446744073709551616) :
    Calls Tryz.prog 236 #[.pointer (some ⟨d, 0, none⟩), .int .u64 keeps] w fun e w' => e = .returned (.tuple #[]) ∧ DkAt W0 w' d (crashM D keeps) L := by
  obtain ⟨hD, kb, lb, n, sv, hn, hO⟩ := h
  have Hok := Lib.hid (settleM_ok D hD keeps)
  have Hcr := Lib.hid (crashM_ok D hD keeps)
  have Hn := Lib.hid (show n = (settleM D keeps).last.length by rw [show (settleM D keeps).last.length = D.last.length from lastTo_length _ _ _]; exact hn)
  go_enter Tryz.func236, Tryz.ntmps236
  go_wp2_with fail
  refine (settle_any W0 w d kb lb n sv D L keeps hO hD hn k0 k1).mono ?_
  rintro e w1 ⟨rfl, hO1⟩
  go_wp2_with fail
  refine (plan_any W0 w1 d (settleM D keeps) L 0 0 ⟨Hok.out, kb, lb, n, _, Hn.out, hO1⟩ (by decide) (by decide) (by decide)).mono ?_
  rintro e w2 ⟨rfl, _, kb, lb, n, sv, hn2, hO2⟩
  have c6 := own_c6 hO2
  have f6 := own_f hO2 6
  have HF := Lib.hid (own_s6 hO2 true)
  have Hn2 := Lib.hid hn2
  clear hO2 hO1 hn2 hn
  go_wp2_with fail
  go_end0
  exact ⟨rfl, Hcr.out, kb, lb, n, sv, Hn2.out, HF.out⟩
theorem down_any (W0 : Base) (w : World) (d : Nat) (D : Dk) (L : List Rw) (h : DkAt W0 w d D L) :
    Calls Tryz.prog 57 #[.pointer (some ⟨d, 0, none⟩)] w fun e w' => e = .returned (.bool D.down) ∧ w = w' := by
  obtain ⟨hD, kb, lb, n, sv, hn, hO⟩ := h
  have c6 := own_c6 hO
  clear hn hO
  go_enter Tryz.func57, Tryz.ntmps57
  go_wp2_with fail
  go_ret
  exact ⟨rfl, rfl⟩
theorem len_any (W0 : Base) (w : World) (d : Nat) (D : Dk) (L : List Rw) (h : DkAt W0 w d D L) :
    Calls Tryz.prog 73 #[.pointer (some ⟨d, 0, none⟩)] w fun e w' => e = .returned (.int .i64 (D.last.length : Int)) ∧ w = w' := by
  obtain ⟨hD, kb, lb, n, sv, hn, hO⟩ := h
  have c1 := own_c1 hO
  have Hn := Lib.hid hn
  clear hn hO
  go_enter Tryz.func73, Tryz.ntmps73
  go_wp2_with fail
  go_ret
  exact ⟨by rw [← Hn.out]; rfl, rfl⟩
theorem refused_any (W0 : Base) (w : World) (d : Nat) (D : Dk) (L : List Rw) (at_ : Int) (h : DkAt W0 w d D L) :
    Calls Tryz.prog 117 #[.pointer (some ⟨d, 0, none⟩), .int .i64 at_] w fun e w' => e = .returned (.int .i64 (refusedM D at_)) ∧ w = w' := by
  obtain ⟨hD, kb, lb, n, sv, hn, hO⟩ := h
  have c1 := own_c1 hO
  have c6 := own_c6 hO
  have hfin : refusedM D at_ = if D.down then 3 else if at_ < 0 ∨ (n : Int) ≤ at_ then 2 else 0 := by unfold refusedM; rw [hn]
  have HF := Lib.hid hfin
  clear hfin hn hO
  generalize D.down = b at *
  cases b
  · by_cases h0 : at_ < 0
    · go_enter Tryz.func117, Tryz.ntmps117
      go_wp2_with fail
      go_ret
      exact ⟨by rw [HF.out, if_neg (by decide), if_pos (by omega)]; rfl, rfl⟩
    · by_cases h1 : (n : Int) ≤ at_
      · go_enter Tryz.func117, Tryz.ntmps117
        go_wp2_with fail
        go_ret
        exact ⟨by rw [HF.out, if_neg (by decide), if_pos (by omega)]; rfl, rfl⟩
      · go_enter Tryz.func117, Tryz.ntmps117
        go_wp2_with fail
        go_ret
        exact ⟨by rw [HF.out, if_neg (by decide), if_neg (by omega)]; rfl, rfl⟩
  · go_enter Tryz.func117, Tryz.ntmps117
    go_wp2_with fail
    go_ret
    exact ⟨by rw [HF.out, if_pos (by decide)]; rfl, rfl⟩
theorem step_any (W0 : Base) (w : World) (d : Nat) (D : Dk) (L : List Rw) (h : DkAt W0 w d D L) (hst : D.steps < 9223372036854775807) :
    Calls Tryz.prog 220 #[.pointer (some ⟨d, 0, none⟩)] w fun e w' => e = .returned (.int .i64 (stepM D).2) ∧ DkAt W0 w' d (stepM D).1 L := by
  obtain ⟨hD, kb, lb, n, sv, hn, hO⟩ := h
  have hok := stepM_ok D hD
  have hs0 := hD.steps0
  have hl0 := hD.left0
  have hl1 := hD.left1
  have c3 := own_c3 hO
  have c4 := own_c4 hO
  have c5 := own_c5 hO
  have f3 := own_f hO 3
  have f4 := own_f hO 4
  have hk0 := hD.keeps0
  have hk1 := hD.keeps1
  have hokl : ∀ l : Int, 0 ≤ l → l ≤ 9223372036854775807 → ({ D with steps := D.steps + 1, left := l } : Dk).Ok := fun l a b => ⟨hD.pos, hD.len, hD.le, hD.kept, hD.last, hD.since, hD.many, by show 0 ≤ D.steps + 1; omega, a, b, hD.keeps0, hD.keeps1⟩
  by_cases h0 : D.left = 0
  · have e0 : (D.left == 0) = true := by rw [h0]; rfl
    have hE : stepM D = ({ D with steps := D.steps + 1 }, 0) := by unfold stepM; rw [if_pos h0]
    have HF := Lib.hid (own_s3 hO (D.steps + 1))
    have HE := Lib.hid hE
    have Hok := Lib.hid hok
    have Hn := Lib.hid hn
    clear hE hok hn hO hokl h0
    go_enter Tryz.func220, Tryz.ntmps220
    go_wp2_with fail
    go_ret
    exact ⟨by rw [HE.out]; rfl, Hok.out, kb, lb, n, sv, by rw [HE.out]; exact Hn.out, by rw [HE.out]; exact HF.out⟩
  · have e0 : (D.left == 0) = false := by simpa using h0
    have hO2 := own_s4 (own_s3 hO (D.steps + 1)) (D.left - 1)
    by_cases h1 : 0 < D.left - 1
    · have hE : stepM D = ({ D with steps := D.steps + 1, left := D.left - 1 }, 0) := by unfold stepM; rw [if_neg h0]; simp only; rw [if_pos h1]
      have HF := Lib.hid hO2
      have HE := Lib.hid hE
      have Hok := Lib.hid hok
      have Hn := Lib.hid hn
      clear hE hok hn hO hO2 hokl h0
      go_enter Tryz.func220, Tryz.ntmps220
      go_wp2_with fail
      go_ret
      exact ⟨by rw [HE.out]; rfl, Hok.out, kb, lb, n, sv, by rw [HE.out]; exact Hn.out, by rw [HE.out]; exact HF.out⟩
    · have hE : stepM D = (crashM { D with steps := D.steps + 1, left := D.left - 1 } D.keeps, 3) := by unfold stepM; rw [if_neg h0]; simp only; rw [if_neg h1]
      have hAt : DkAt W0 ((w.setCell ⟨d, 3, none⟩ (.int .i64 (D.steps + 1))).setCell ⟨d, 4, none⟩ (.int .i64 (D.left - 1))) d { D with steps := D.steps + 1, left := D.left - 1 } L := ⟨hokl _ (by omega) (by omega), kb, lb, n, sv, hn, hO2⟩
      have HA := Lib.hid hAt
      have HE := Lib.hid hE
      clear hE hok hn hO hO2 hokl h0 hAt
      go_enter Tryz.func220, Tryz.ntmps220
      go_wp2_with fail
      refine (crash_any W0 _ d _ L D.keeps HA.out hk0 hk1).mono ?_
      rintro e w2 ⟨rfl, hA2⟩
      have HA2 := Lib.hid hA2
      clear hA2
      go_wp2_with fail
      go_ret
      exact ⟨by rw [HE.out]; rfl, by rw [HE.out]; exact HA2.out⟩
end Go.Proofs.YtkhnkidggcjfeaaGreatDoor
end
section
namespace Go.Proofs.YtkhnkidggcjfeaaGreatDoor
open Go.RowKit
theorem info_w : (Tryz.prog.info? 294).map (fun i => (i.zero, i.size, i.bytes)) = some (some (.agg zW.toArray), 65, 72) := by kernel_rfl
theorem zW_size : (Value.agg zW.toArray).cells.size = 65 := by kernel_rfl
theorem built_write64 (x : Int) (a0 a1 a2 a3 a4 a5 a6 a7 a8 a9 a10 a11 a12 a13 a14 a15 a16 a17 a18 a19 a20 a21 a22 a23 a24 a25 a26 a27 a28 a29 a30 a31 a32 a33 a34 a35 a36 a37 a38 a39 a40 a41 a42 a43 a44 a45 a46 a47 a48 a49 a50 a51 a52 a53 a54 a55 a56 a57 a58 a59 a60 a61 a62 a63 : Value) : Tryz.prog.built 294 [(0, .int .i64 x), (1, .agg #[a0, a1, a2, a3, a4, a5, a6, a7, a8, a9, a10, a11, a12, a13, a14, a15, a16, a17, a18, a19, a20, a21, a22, a23, a24, a25, a26, a27, a28, a29, a30, a31, a32, a33, a34, a35, a36, a37, a38, a39, a40, a41, a42, a43, a44, a45, a46, a47, a48, a49, a50, a51, a52, a53, a54, a55, a56, a57, a58, a59, a60, a61, a62, a63])] = some #[.int .i64 x, a0, a1, a2, a3, a4, a5, a6, a7, a8, a9, a10, a11, a12, a13, a14, a15, a16, a17, a18, a19, a20, a21, a22, a23, a24, a25, a26, a27, a28, a29, a30, a31, a32, a33, a34, a35, a36, a37, a38, a39, a40, a41, a42, a43, a44, a45, a46, a47, a48, a49, a50, a51, a52, a53, a54, a55, a56, a57, a58, a59, a60, a61, a62, a63] := by kernel_rfl
theorem built_write (x : Int) (s : List Value) (hs : s.length = 64) : Tryz.prog.built 294 [(0, .int .i64 x), (1, .agg s.toArray)] = some (Value.int .i64 x :: s).toArray := by
  match s, hs with
  | a0 :: a1 :: a2 :: a3 :: a4 :: a5 :: a6 :: a7 :: a8 :: a9 :: a10 :: a11 :: a12 :: a13 :: a14 :: a15 :: a16 :: a17 :: a18 :: a19 :: a20 :: a21 :: a22 :: a23 :: a24 :: a25 :: a26 :: a27 :: a28 :: a29 :: a30 :: a31 :: a32 :: a33 :: a34 :: a35 :: a36 :: a37 :: a38 :: a39 :: a40 :: a41 :: a42 :: a43 :: a44 :: a45 :: a46 :: a47 :: a48 :: a49 :: a50 :: a51 :: a52 :: a53 :: a54 :: a55 :: a56 :: a57 :: a58 :: a59 :: a60 :: a61 :: a62 :: a63 :: [], _ => exact built_write64 x a0 a1 a2 a3 a4 a5 a6 a7 a8 a9 a10 a11 a12 a13 a14 a15 a16 a17 a18 a19 a20 a21 a22 a23 a24 a25 a26 a27 a28 a29 a30 a31 a32 a33 a34 a35 a36 a37 a38 a39 a40 a41 a42 a43 a44 a45 a46 a47 a48 a49 a50 a51 a52 a53 a54 a55 a56 a57 a58 a59 a60 a61 a62 a63
/-! Three operations on many cells at once, as rules for a region that draws its order. -/
def okSec (w : World) (v : Value) : Prop := ∃ b o, v = .pointer (some ⟨b, o, none⟩) ∧ ∀ j, j < 64 → (w.cell? ⟨b, o + j, none⟩).isSome = true
def secOf (w : World) (v : Value) : Value := match v with
  | .pointer (some ⟨b, o, _⟩) => .agg ((List.range 64).map fun j => (w.cell? ⟨b, o + j, none⟩).getD undef).toArray
  | _ => undef
theorem sec_range (w : World) (b o : Nat) (h : ∀ j, j < 64 → (w.cell? ⟨b, o + j, none⟩).isSome = true) : w.rangeAt b o ((List.range 64).map fun j => (w.cell? ⟨b, o + j, none⟩).getD undef) := by
  intro j v hj
  have hj64 : j < 64 := by
    rcases Nat.lt_or_ge j 64 with h1 | h1
    · exact h1
    · rw [List.getElem?_eq_none (by simpa using h1)] at hj; cases hj
  rw [List.getElem?_map, List.getElem?_range hj64] at hj
  obtain ⟨u, hu⟩ := Option.isSome_iff_exists.1 (h j hj64)
  simp only [Option.map_some, Option.some.injEq] at hj
  rw [hu] at hj ⊢
  rw [← hj]
  rfl
theorem sec_is {w : World} {b o : Nat} {s : List Value} (hr : w.rangeAt b o s) (hs : s.length = 64) : okSec w (.pointer (some ⟨b, o, none⟩)) ∧ secOf w (.pointer (some ⟨b, o, none⟩)) = .agg s.toArray := by
  have h1 : ∀ j, j < 64 → w.cell? ⟨b, o + j, none⟩ = s[j]? := fun j hj => by rw [hr j s[j] (List.getElem?_eq_getElem (by omega)), List.getElem?_eq_getElem (by omega)]
  refine ⟨⟨b, o, rfl, fun j hj => by rw [h1 j hj, List.getElem?_eq_getElem (by omega)]; rfl⟩, ?_⟩
  show Value.agg _ = _
  congr 2
  apply List.ext_getElem (by simp [hs])
  intro j h2 h3
  rw [List.getElem_map, List.getElem_range, h1 j (by simpa using h2), List.getElem?_eq_getElem h3]
  rfl
theorem wp_load_sec {dd : Option Tmp} {x : Operand} {ty : TypeId} {ps : String} {af : Array Edge} {gd : Option (Nat × Bool)} {a : Act} {w : World} {K : Act → World → Prop} {Q : Exit → Act → World → Prop} (h : okSec w (a.eval x)) :
    Oper.wp Tryz.prog ⟨dd, .load 150 x, ty, ps, af, gd⟩ a w K Q = K (a.put dd (secOf w (a.eval x))) w := by
  obtain ⟨b, o, hx, hj⟩ := h
  have hr := run_loadAt_mid (P := Tryz.prog) w b o _ _ _ (sec_range w b o hj) Tryz.underlying150 rfl (by rw [List.length_map, List.length_range]; exact info_sector)
  unfold Oper.wp execOp
  simp only [hx, Sem.run_bind, hr, Result.andThen_ok, Sem.run_pure]
  rfl
def okWr (v u : Value) : Prop := ∃ (x : Int) (s : List Value), v = .int .i64 x ∧ u = .agg s.toArray ∧ s.length = 64
def wrOf (v u : Value) : Value := .agg (v :: u.cells.toList).toArray
theorem wp_build_wr {dd : Option Tmp} {x y : Operand} {ty : TypeId} {ps : String} {af : Array Edge} {gd : Option (Nat × Bool)} {a : Act} {w : World} {K : Act → World → Prop} {Q : Exit → Act → World → Prop} (h : okWr (a.eval x) (a.eval y)) :
    Oper.wp Tryz.prog ⟨dd, .build 294 #[(0, x), (1, y)], ty, ps, af, gd⟩ a w K Q = K (a.put dd (wrOf (a.eval x) (a.eval y))) w := by
  obtain ⟨n, s, hx, hy, hs⟩ := h
  have hr := run_build (P := Tryz.prog) w 294 #[(0, .int .i64 n), (1, .agg s.toArray)] _ (built_write n s hs)
  unfold Oper.wp execOp
  simp only [List.map_toArray, List.map_cons, List.map_nil, hx, hy, Sem.run_bind, hr, Result.andThen_ok, Sem.run_pure]
  rfl
theorem built_fold (Z : Array Value) (hZ : Z.size = 65) (v : Value) (s : List Value) (hs : s.length = 64) : List.foldl (fun (cs : Array Value) (x : Value × Nat) => cs.setIfInBounds (1 + x.snd) x.fst) (Z.setIfInBounds 0 v) s.zipIdx = (v :: s).toArray := by
  have h := fold_splice s (Z.setIfInBounds 0 v) 1 0
  rw [Nat.add_zero] at h
  apply Array.ext'
  refine h.trans ?_
  apply List.ext_getElem?
  intro i
  have hl : (Z.setIfInBounds 0 v).toList.length = 65 := by simp [hZ]
  rw [splice_get _ _ _ _ (by rw [hl, hs]; omega)]
  rcases i with _ | i
  · rw [if_neg (by omega), Array.toList_setIfInBounds, List.getElem?_set_self (by rw [Array.length_toList]; omega)]
    rfl
  · by_cases hi : i < 64
    · rw [if_pos (by omega)]
      simp
    · rw [if_neg (by omega), List.getElem?_eq_none (by rw [hl]; omega), List.getElem?_eq_none (by simp [hs]; omega)]
def okRow (v : Value) : Prop := ∃ cs : List Value, v = .agg cs.toArray ∧ cs.length = 65
theorem wp_slice_wr {dd : Option Tmp} {x : Operand} {ty : TypeId} {ps : String} {af : Array Edge} {gd : Option (Nat × Bool)} {a : Act} {w : World} {K : Act → World → Prop} {Q : Exit → Act → World → Prop} (h : okRow (a.eval x)) :
    Oper.wp Tryz.prog ⟨dd, .buildSlice 105 1 #[(0, x)], ty, ps, af, gd⟩ a w K Q = K (a.put dd (.slice (some ⟨w.heap.size, 0, none⟩) 1 1)) (w.alloc (.cells (a.eval x).cells 294)) := by
  obtain ⟨cs, hx, hs⟩ := h
  obtain ⟨i0, hi, hz0, hz1, hz2⟩ := info_parts info_w
  have hr := run_buildSlice_one (P := Tryz.prog) w 105 294 65 i0 (.agg zW.toArray) Tryz.underlying105 hi hz1 hz0 zW_size (by decide) (by decide) cs hs
  unfold Oper.wp execOp
  simp only [List.map_toArray, List.map_cons, List.map_nil, hx, Sem.run_bind, hr, Result.andThen_ok, Sem.run_pure]
  rfl
attribute [local go_sem ↓] wp_load_sec wp_build_wr wp_slice_wr Go.wp_at_zero Go.wp_at_succ
theorem put_c2 {W0 : Base} {w : World} {d kb lb n : Nat} {sv : Value} {D : Dk} {L : List Rw} {r1 r2 r3 : Rw} (h : Own W0 w (r3 :: rowD d kb lb sv n D :: r1 :: r2 :: L)) : w.cell? ⟨d, 2, none⟩ = some sv := Own.cell (h := h.swap) 2 (by decide)
theorem put_f2 {W0 : Base} {w : World} {d kb lb n : Nat} {sv : Value} {D : Dk} {L : List Rw} {r1 r2 r3 : Rw} (h : Own W0 w (r3 :: rowD d kb lb sv n D :: r1 :: r2 :: L)) : w.frozen? ⟨d, 2, none⟩ = false := Own.free (h := h.swap) 2
theorem put_since {W0 : Base} {w : World} {d kb lb n : Nat} {sv : Value} {D : Dk} {L : List Rw} {M : List (List Value)} {v' : Value} {p : Nat × List Value} (h : Own W0 w (rowS v' (D.since ++ [p]) :: rowD d kb lb sv n D :: rowK kb n D.kept :: rowK lb n M :: L)) :
    Own W0 (w.setCell ⟨d, 2, none⟩ v') (rowsOf d kb lb v' n { D with last := M, since := D.since ++ [p] } L) :=
  Own.set (h := h.unfourth) 2 v'
theorem put_at {W0 : Base} {w : World} {d kb lb n x : Nat} {sv v' : Value} {s : List Value} {D : Dk} {L : List Rw} (h : Own W0 w (⟨294, 65, v', D.since.length + 1, (D.since.map wcells).flatten ++ (Value.int .i64 (x : Int) :: s)⟩ :: rowD d kb lb sv n { D with last := D.last.set x s } :: rowK kb n D.kept :: rowK lb n (D.last.set x s) :: L))
    (hok : (putM D x s).Ok) (hn : n = (D.last.set x s).length) : DkAt W0 (w.setCell ⟨d, 2, none⟩ v') d (putM D x s) L := by
  have e : (D.since.map wcells).flatten ++ Value.int .i64 (x : Int) :: s = ((D.since ++ [(x, s)]).map wcells).flatten := by simp [wcells]
  have e2 : D.since.length + 1 = (D.since ++ [(x, s)]).length := by simp
  rw [e, e2] at h
  exact ⟨hok, kb, lb, n, v', hn, put_since (D := D) (M := D.last.set x s) (p := (x, s)) h⟩
set_option maxHeartbeats 3200000 in
set_option maxRecDepth 100000 in
theorem write_any (W0 : Base) (w : World) (d : Nat) (D : Dk) (L : List Rw) (at_ : Int) (s : List Value) (h : DkAt W0 w d D L) (hs : isSec s) (hst : D.steps < 9223372036854775807) (hsi : D.since.length < 1000000) :
    Calls Tryz.prog 183 #[.pointer (some ⟨d, 0, none⟩), .int .i64 at_, .agg s.toArray] w fun e w' => e = .returned (.int .i64 (writeM D at_ s).2) ∧ DkAt W0 w' d (writeM D at_ s).1 L := by
  have hb := h.alloc (.cells s.toArray 150)
  by_cases hr : refusedM D at_ = 0
  · have hr1 : (refusedM D at_ == 0) = true := by rw [hr]; rfl
    have hr2 : (refusedM D at_ != 0) = false := by rw [hr]; rfl
    obtain ⟨hD, kb, lb, n, sv, hn, hO⟩ := h
    have hO1 : Own W0 (w.alloc (.cells s.toArray 150)) (⟨150, 64, .slice (some ⟨w.heap.size, 0, none⟩) 1 1, 1, s⟩ :: rowsOf d kb lb sv n D L) := by
      have := hO.made 150 64 s.toArray 1 (by simp [hs.1]) (by unfold maxLen; decide)
      simpa using this
    have hat : ∃ x : Nat, at_ = (x : Int) ∧ x < n := by
      unfold refusedM at hr
      split at hr
      · cases hr
      · split at hr
        · cases hr
        · exact ⟨at_.toNat, by omega, by omega⟩
    obtain ⟨x, rfl, hx⟩ := hat
    have hE : writeM D x s = stepM (putM D x s) := by unfold writeM; rw [if_neg (by simpa using hr), Int.toNat_natCast]
    have hok := putM_ok D hD x s (by omega) hs hsi
    obtain ⟨i0, hi, hz0, hz1, hz2⟩ := info_parts info_w
    have his : (Tryz.prog.info? 150).map (·.size) = some s.length := by rw [hs.1]; exact info_sector
    have hiw : (Tryz.prog.info? 294).map (·.size) = some 65 := info_write
    have hx0 : (0 : Int) ≤ (x : Int) := by omega
    have hx1 : (x : Int) < (n : Int) := by omega
    have hbw := built_write x s hs.1
    have hm := hD.many
    have HE := Lib.hid hE
    have Hok := Lib.hid hok
    have Hb := Lib.hid hb
    have Hs := Lib.hid hs
    have Hr := Lib.hid hr
    have Hn := Lib.hid hn
    have Hbw := Lib.hid hbw
    have Hsi := Lib.hid hsi
    have HlastN := Lib.hid (show (D.last.set x s).length = n by rw [List.length_set]; exact hn.symm)
    have Hlast := Lib.hid (fun t ht => (hD.last t ht).1 : ∀ t ∈ D.last, t.length = 64)
    clear hE hok hb hr hn hbw hO hs hsi
    go_enter Tryz.func183, Tryz.ntmps183
    go_wp2_with (go_at_call 117; refine (refused_any W0 _ d D L (x : Int) Hb.out).mono ?_; rintro e w' ⟨rfl, rfl⟩)
    clear Hb
    generalize hW1 : w.alloc (.cells s.toArray 150) = w1 at *
    generalize w.heap.size = H at *
    clear hW1
    have c1 := own_c1 hO1.tail
    have cb : w1.rangeAt H 0 s := by have := hO1.range 0 64; rw [List.drop_zero, ← Hs.out.1, List.take_length] at this; exact this
    have ck : w1.there lb (x * 64) 64 := Own.there (h := hO1.tail.third) (x * 64) 64 (by show x * 64 + 64 ≤ n * 64; omega)
    have hO2 : Own W0 (w1.drew.setCells lb (x * 64) s) (⟨150, 64, .slice (some ⟨H, 0, none⟩) 1 1, 1, s⟩ :: rowsOf d kb lb sv n { D with last := D.last.set x s } L) := by
      have h1 := (Own.setCells (h := (hO1.drew).fourth) s (x * 64)).unfourth
      rw [flat_splice 64 (by decide) D.last Hlast.out x (by rw [← Hn.out]; exact hx) s Hs.out.1] at h1
      exact h1
    go_still_tail 7, (by kernel_rfl)
    refine wpStill_load_mid rfl 150 (.tmp 5) rfl H 0 rfl s _ cb Tryz.underlying150 rfl his ?_
    repeat still_step
    refine wpStill_nil ?_
    change wpList _ _ _ _ _ w1.drew
    refine wpList_store_mid rfl 150 (.tmp 20) (.tmp 19) rfl lb (x * 64) s.toArray rfl rfl ?_ ?_ (all_oneCell_toArray Hs.out.2) ?_
    · simpa [Hs.out.1] using ck
    · simpa using his
    generalize hW2 : (w1.drew.setCells lb (x * 64) s.toArray.toList) = w2
    have hO2' : Own W0 w2 (⟨150, 64, .slice (some ⟨H, 0, none⟩) 1 1, 1, s⟩ :: rowsOf d kb lb sv n { D with last := D.last.set x s } L) := by rw [← hW2]; exact hO2
    clear hW2 hO2 c1 cb ck hO1
    have c2 := own_c2 hO2'.tail
    have cb : w2.rangeAt H 0 s := by have := hO2'.range 0 64; rw [List.drop_zero, ← Hs.out.1, List.take_length] at this; exact this
    go_wp2_with fail
    have hs64 := Hs.out.1
    have hs1 := Hs.out.2
    have hu39 := Tryz.underlying150
    have hdlt : d < w2.heap.size := (hO2'.tail.lt (List.mem_cons_self ..) (k := d) rfl).2
    have hsrc : ∀ (W : World), Src (W.alloc (.cells (Value.int .i64 (x : Int) :: s).toArray 294)) (.slice (some ⟨W.heap.size, 0, none⟩) 1 1) 1 (Value.int .i64 (x : Int) :: s) := fun W => by
      refine .inr ⟨_, _, rfl, fun j u hj => ?_, fun u hu => ?_⟩
      · rw [Addr.add_mid, Nat.zero_add, World.cell?_alloc_new]
        simpa using hj
      · rcases List.mem_cons.1 hu with rfl | hu
        · rfl
        · exact hs1 u hu
    have hnl : (Value.int .i64 (x : Int) :: s).length = 1 * 65 := by simp [hs64]
    have h63 : D.since.length + 1 ≤ maxLen := by unfold maxLen; omega
    have hby : (D.since.length + 1) * 72 ≤ 140737488355328 := by omega
    have Hnl := Lib.hid hnl
    have H63 := Lib.hid h63
    have Hby := Lib.hid hby
    clear hnl h63 hby
    have q1 : okSec w2.drew (.pointer (some ⟨H, 0, none⟩)) := (sec_is (w := w2.drew) cb hs64).1
    have q2 : ∀ o : Obj, okSec (w2.alloc o).drew (.pointer (some ⟨H, 0, none⟩)) := fun o => (sec_is (w := (w2.alloc o).drew) (World.rangeAt_alloc cb o) hs64).1
    have q3 : secOf w2.drew (.pointer (some ⟨H, 0, none⟩)) = .agg s.toArray := (sec_is (w := w2.drew) cb hs64).2
    have q4 : ∀ o : Obj, secOf (w2.alloc o).drew (.pointer (some ⟨H, 0, none⟩)) = .agg s.toArray := fun o => (sec_is (w := (w2.alloc o).drew) (World.rangeAt_alloc cb o) hs64).2
    have q5 : okWr (.int .i64 (x : Int)) (.agg s.toArray) := ⟨_, s, rfl, rfl, hs64⟩
    have q6 : wrOf (.int .i64 (x : Int)) (.agg s.toArray) = .agg (Value.int .i64 (x : Int) :: s).toArray := rfl
    have q7 : okRow (.agg (Value.int .i64 (x : Int) :: s).toArray) := ⟨_, rfl, by simp [hs64]⟩
    have q8 : (Value.agg (Value.int .i64 (x : Int) :: s).toArray).cells = (Value.int .i64 (x : Int) :: s).toArray := rfl
    first | (have hfold : List.foldl (fun (cs : Array Value) (x : Value × Nat) => cs.setIfInBounds (1 + x.snd) x.fst) (Tryz.zeroCells294.setIfInBounds 0 (Value.int .i64 (x : Int))) s.zipIdx = (Value.int .i64 (x : Int) :: s).toArray := built_fold _ (by kernel_rfl) _ _ hs64) | skip
    go_region_law (first
      | ((refine step_append_src (by rfl) (.tmp 25) (.tmp 29) 105 (by rfl) sv D.since.length (D.since.map wcells).flatten (.slice (some ⟨w2.heap.size, 0, none⟩) 1 1) 1 (Value.int .i64 (x : Int) :: s) (by rfl) (by rfl) (hO2'.tail.alloc _).drew.fourth i0 (.agg zW.toArray) 72 Tryz.underlying105 hi hz0 hz1 hz2 zW_size (by decide) (hsrc w2) Hnl.out H63.out Hby.out ?_; intro v3 w3 hO3; obtain ⟨g3, cp3, rfl, _, _⟩ := hO3.form (by omega); have c2' := put_c2 hO3; have f2' := put_f2 hO3)))
    all_goals
      have hA := put_at hO3 Hok.out HlastN.out.symm
      have HA := Lib.hid hA
      clear hO2' c2 cb hA hO3 q1 q2 q3 q4 q5 q6 q7 q8 hsrc c2' f2' hdlt
      have hst' : (putM D x s).steps < 9223372036854775807 := hst
      go_wp2_with fail
      refine (step_any W0 _ d (putM D x s) L HA.out hst').mono ?_
      rintro e w4 ⟨rfl, hA4⟩
      have HA4 := Lib.hid hA4
      clear hA4
      go_wp2_with fail
      go_ret
      exact ⟨by rw [HE.out]; rfl, by rw [HE.out]; exact HA4.out⟩
  · have hr2 : (refusedM D at_ != 0) = true := by simpa using hr
    have hE : writeM D at_ s = (D, refusedM D at_) := by unfold writeM; rw [if_pos hr]
    have HE := Lib.hid hE
    have Hb := Lib.hid hb
    clear hE hr hb
    go_enter Tryz.func183, Tryz.ntmps183
    go_wp2_with (go_at_call 117; refine (refused_any W0 _ d D L at_ Hb.out).mono ?_; rintro e w' ⟨rfl, rfl⟩)
    go_ret
    exact ⟨by rw [HE.out]; rfl, by rw [HE.out]; exact Hb.out⟩
theorem flush_any (W0 : Base) (w : World) (d : Nat) (D : Dk) (L : List Rw) (h : DkAt W0 w d D L) (hst : D.steps < 9223372036854775807) :
    Calls Tryz.prog 184 #[.pointer (some ⟨d, 0, none⟩)] w fun e w' => e = .returned (.int .i64 (flushM D).2) ∧ DkAt W0 w' d (flushM D).1 L := by
  have h' := h
  obtain ⟨hD, kb, lb, n, sv, hn, hO⟩ := h
  have c6 := own_c6 hO
  clear hn hO
  have H0 := Lib.hid h'
  cases hb : D.down
  · rw [hb] at c6
    by_cases h2 : (stepM D).2 = 0
    · have h2' : ((stepM D).2 != 0) = false := by rw [h2]; rfl
      have hE : flushM D = (settleM (stepM D).1 18446744073709551615, 0) := by unfold flushM; rw [hb]; simp [h2]
      have HE := Lib.hid hE
      clear hE h2 hb h'
      go_enter Tryz.func184, Tryz.ntmps184
      go_wp2_with fail
      refine (step_any W0 _ d D L H0.out hst).mono ?_
      rintro e w4 ⟨rfl, hA4⟩
      have HA4 := Lib.hid hA4
      clear hA4
      go_wp2_with fail
      obtain ⟨hD4, kb, lb, n, sv, hn4, hO4⟩ := HA4.out
      refine (settle_any W0 w4 d kb lb n sv _ L 18446744073709551615 hO4 hD4 hn4 (by decide) (by decide)).mono ?_
      rintro e w5 ⟨rfl, hO5⟩
      have HA5 := Lib.hid (show DkAt W0 w5 d (settleM (stepM D).1 18446744073709551615) L from ⟨settleM_ok _ hD4 _, kb, lb, n, _, by rw [hn4]; exact (lastTo_length _ _ _).symm, hO5⟩)
      clear hO5 hO4 hn4 hD4
      go_wp2_with fail
      go_ret
      exact ⟨by rw [HE.out]; rfl, by rw [HE.out]; exact HA5.out⟩
    · have h2' : ((stepM D).2 != 0) = true := by simpa using h2
      have hE : flushM D = stepM D := by unfold flushM; rw [hb]; simp [h2]
      have HE := Lib.hid hE
      clear hE h2 hb h'
      go_enter Tryz.func184, Tryz.ntmps184
      go_wp2_with fail
      refine (step_any W0 _ d D L H0.out hst).mono ?_
      rintro e w4 ⟨rfl, hA4⟩
      have HA4 := Lib.hid hA4
      clear hA4
      go_wp2_with fail
      go_ret
      exact ⟨by rw [HE.out]; rfl, by rw [HE.out]; exact HA4.out⟩
  · rw [hb] at c6
    have hE : flushM D = (D, 3) := by unfold flushM; rw [hb]; rfl
    have HE := Lib.hid hE
    clear hE hb h'
    go_enter Tryz.func184, Tryz.ntmps184
    go_wp2_with fail
    go_ret
    exact ⟨by rw [HE.out]; rfl, by rw [HE.out]; exact H0.out⟩
end Go.Proofs.YtkhnkidggcjfeaaGreatDoor
end
