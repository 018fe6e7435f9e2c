/- Rows that a call has made and owns, several at once, no two in one block; what was there before is as it was. General: over any program. -/
import Derived.WalkKit
import Derived.OwnWalk
import Derived.Below
import Derived.Maps.AppendAt
import Derived.Laws.OwnMore
import Derived.Laws.AppendOwnNone
import Derived.Deep.RegionLaw
namespace Go.Proofs.Ytokokppifgoiaaa
set_option linter.unusedVariables false
set_option linter.unusedSimpArgs false
open Go.RowKit
set_option linter.unusedVariables false

/-- A row: its element type, its value, its cells. -/
abbrev Row := TypeId × Value × List Value

structure Own (W0 w : World) (L : List Row) : Prop where
  below : Below W0.heap.size W0 w
  rows : ∀ p ∈ L, w.ownsRow W0.heap.size p.1 1 p.2.1 p.2.2.length p.2.2 ∧ p.2.1.ownBlock ≠ none
  apart : L.Pairwise fun p q => p.2.1.ownBlock ≠ q.2.1.ownBlock

theorem Own.start (w : World) : Own w w [] := ⟨Below.refl _ _, (fun p hp => by cases hp), List.Pairwise.nil⟩
theorem Own.of_below {W0 w : World} (h : Below W0.heap.size W0 w) : Own W0 w [] := ⟨h, (fun p hp => by cases hp), List.Pairwise.nil⟩
theorem Own.size {W0 w : World} {L : List Row} (h : Own W0 w L) : W0.heap.size ≤ w.heap.size := h.below.size
theorem Own.lt {W0 w : World} {L : List Row} (h : Own W0 w L) {p : Row} (hp : p ∈ L) {k : Nat} (hk : p.2.1.ownBlock = some k) : W0.heap.size ≤ k ∧ k < w.heap.size := (h.rows p hp).1.lt k hk
theorem Own.drew {W0 w : World} {L : List Row} (h : Own W0 w L) : Own W0 w.drew L := ⟨h.below.drew, fun p hp => ⟨(h.rows p hp).1.drew, (h.rows p hp).2⟩, h.apart⟩
theorem Own.alloc {W0 w : World} {L : List Row} (h : Own W0 w L) (o : Obj) : Own W0 (w.alloc o) L :=
  ⟨h.below.alloc h.size o, fun p hp => ⟨(h.rows p hp).1.alloc o, (h.rows p hp).2⟩, h.apart⟩
theorem Own.swap {W0 w : World} {p q : Row} {L : List Row} (h : Own W0 w (p :: q :: L)) : Own W0 w (q :: p :: L) := by
  refine ⟨h.below, fun r hr => h.rows r ?_, ?_⟩
  · simp only [List.mem_cons] at hr ⊢
    rcases hr with h1 | h1 | h1
    · exact .inr (.inl h1)
    · exact .inl h1
    · exact .inr (.inr h1)
  · have := h.apart
    simp only [List.pairwise_cons, List.mem_cons, forall_eq_or_imp] at this ⊢
    exact ⟨⟨fun e => this.1.1 e.symm, this.2.1⟩, this.1.2, this.2.2⟩
theorem Own.tail {W0 w : World} {p : Row} {L : List Row} (h : Own W0 w (p :: L)) : Own W0 w L :=
  ⟨h.below, fun r hr => h.rows r (List.mem_cons_of_mem _ hr), (List.pairwise_cons.1 h.apart).2⟩
theorem Own.head {W0 w : World} {e : TypeId} {v : Value} {xs : List Value} {L : List Row} (h : Own W0 w ((e, v, xs) :: L)) : w.ownsRow W0.heap.size e 1 v xs.length xs := (h.rows _ (List.mem_cons_self ..)).1
theorem Own.made {W0 w : World} {L : List Row} (h : Own W0 w L) (e : TypeId) (cs : Array Value) (n : Nat) (hn : cs.size = n) (hm : n ≤ maxLen) :
    Own W0 (w.alloc (.cells cs e)) ((e, .slice (some ⟨w.heap.size, 0, none⟩) n n, cs.toList) :: L) := by
  subst hn
  refine ⟨(h.alloc _).below, fun p hp => ?_, List.pairwise_cons.2 ⟨fun q hq => ?_, h.apart⟩⟩
  · rcases List.mem_cons.1 hp with rfl | hp
    · refine ⟨?_, by simp [Value.ownBlock]⟩
      have := World.ownsRow_lit (base := W0.heap.size) (e := e) (size := 1) w cs cs.size h.size hm (by omega)
      simpa using this
    · exact (h.alloc _).rows p hp
  · intro e'
    have := (h.lt hq (k := w.heap.size) e'.symm).2
    omega
/-- The same, the block's number as the walk spells it. -/
theorem Own.made_at {W0 w : World} {L : List Row} (h : Own W0 w L) (e : TypeId) (cs : Array Value) (n H : Nat) (hH : H = w.heap.size) (hn : cs.size = n) (hm : n ≤ maxLen) :
    Own W0 (w.alloc (.cells cs e)) ((e, .slice (some ⟨H, 0, none⟩) n n, cs.toList) :: L) := hH ▸ h.made e cs n hn hm
theorem Own.empty {W0 w : World} {L : List Row} (h : Own W0 w L) (e : TypeId) : Own W0 (w.alloc (.cells #[] e)) ((e, .slice (some ⟨w.heap.size, 0, none⟩) 0 0, []) :: L) := h.made e #[] 0 rfl (Nat.zero_le _)
theorem Own.empty2 {W0 w : World} {L : List Row} (h : Own W0 w L) (e : TypeId) :
    Own W0 ((w.alloc (.cells #[] e)).alloc (.cells #[] e)) ((e, .slice (some ⟨w.heap.size + 1, 0, none⟩) 0 0, []) :: (e, .slice (some ⟨w.heap.size, 0, none⟩) 0 0, []) :: L) :=
  (h.empty e).made_at e #[] 0 _ (by simp) rfl (Nat.zero_le _)
theorem Own.grown {W0 w w' : World} {e : TypeId} {v v' : Value} {xs ys : List Value} {L : List Row} (h : Own W0 w ((e, v, xs) :: L)) (hown : w'.ownsRow W0.heap.size e 1 v' ys.length ys) (hgrow : w.grownBy w' v.ownBlock)
    (hat : v'.ownBlock = v.ownBlock ∨ v'.ownBlock = some w.heap.size) : Own W0 w' ((e, v', ys) :: L) := by
  have hv := (h.rows _ (List.mem_cons_self ..)).2
  have hap := List.pairwise_cons.1 h.apart
  have hne : v'.ownBlock ≠ none := by
    rcases hat with h1 | h1
    · rw [h1]; exact hv
    · rw [h1]; simp
  have hother : ∀ q ∈ L, v'.ownBlock ≠ q.2.1.ownBlock := by
    intro q hq e'
    rcases hat with h1 | h1
    · exact hap.1 q hq (h1 ▸ e')
    · have := (h.lt (List.mem_cons_of_mem _ hq) (k := w.heap.size) (by rw [← e', h1])).2
      omega
  refine ⟨h.below.grown hgrow h.size fun k hk => (h.lt (List.mem_cons_self ..) hk).1, fun p hp => ?_, List.pairwise_cons.2 ⟨fun q hq => hother q hq, hap.2⟩⟩
  rcases List.mem_cons.1 hp with rfl | hp
  · exact ⟨hown, hne⟩
  · have hr := h.rows p (List.mem_cons_of_mem _ hp)
    exact ⟨hr.1.kept hgrow (.inr fun e' => hap.1 p hp e'.symm), hr.2⟩
theorem grownBy_of_below {w w' : World} (hb : Below w.heap.size w w') (row : Option Nat) : w.grownBy w' row := ⟨hb.os, hb.tape, hb.output, hb.size, fun k hk _ => hb.block k hk⟩
/-- A call that turns nothing that was there. -/
theorem Own.later {W0 w w' : World} {L : List Row} (h : Own W0 w L) (hb : Below w.heap.size w w') : Own W0 w' L :=
  ⟨h.below.trans (hb.mono h.size), fun p hp => ⟨(h.rows p hp).1.kept (grownBy_of_below hb none) (.inr (h.rows p hp).2), (h.rows p hp).2⟩, h.apart⟩
theorem Own.set {W0 w : World} {e : TypeId} {g n cap : Nat} {xs : List Value} {L : List Row} (h : Own W0 w ((e, .slice (some ⟨g, 0, none⟩) n cap, xs) :: L)) (j : Nat) (u : Value) :
    Own W0 (w.setCell ⟨g, j, none⟩ u) ((e, .slice (some ⟨g, 0, none⟩) n cap, xs.set j u) :: L) := by
  have hn : xs.length = n := by
    have h1 := h.head
    rcases h1.2 with ⟨h2, _⟩ | ⟨g', cap', cur, h2, _⟩
    · simp at h2
    · injection h2 with _ h3 _; exact h3.symm
  have hh := h.head
  rw [hn] at hh
  have hs := hh.stored j u
  refine Own.grown (v := .slice (some ⟨g, 0, none⟩) n cap) h ?_ hs.2 (.inl rfl)
  rw [List.length_set, hn]
  exact hs.1
theorem Own.len {W0 w : World} {e : TypeId} {a : Option Addr} {n cap : Nat} {xs : List Value} {L : List Row} (h : Own W0 w ((e, .slice a n cap, xs) :: L)) : xs.length = n := by
  have h1 := h.head
  rcases h1.2 with ⟨h2, h3⟩ | ⟨g', cap', cur, h2, _⟩
  · injection h2 with _ h4 _; omega
  · injection h2 with _ h3 _; exact h3.symm
/-- What an owned row looks like. -/
theorem Own.form {W0 w : World} {e : TypeId} {v : Value} {xs : List Value} {L : List Row} (h : Own W0 w ((e, v, xs) :: L)) : ∃ g cap, v = .slice (some ⟨g, 0, none⟩) xs.length cap ∧ W0.heap.size ≤ g ∧ g < w.heap.size ∧ xs.length ≤ cap ∧ cap ≤ maxLen := by
  rcases h.head.2 with ⟨h2, h3⟩ | ⟨g', cap', cur, h2, h3, h4, h5, h6, _⟩
  · exact absurd (by rw [h2]; rfl) (h.rows _ (List.mem_cons_self ..)).2
  · refine ⟨g', cap', h2, h3, ?_, h5, h6⟩
    exact (h.lt (List.mem_cons_self ..) (k := g') (by rw [h2]; rfl)).2
theorem Own.cell {W0 w : World} {e : TypeId} {g n cap : Nat} {xs : List Value} {L : List Row} (h : Own W0 w ((e, .slice (some ⟨g, 0, none⟩) n cap, xs) :: L)) (j : Nat) (hj : j < n) : w.cell? ⟨g, j, none⟩ = xs[j]? := by
  have hl := h.len
  have hh := h.head
  rw [hl] at hh
  exact hh.cellAt j (by omega)
theorem Own.free {W0 w : World} {e : TypeId} {g n cap : Nat} {xs : List Value} {L : List Row} (h : Own W0 w ((e, .slice (some ⟨g, 0, none⟩) n cap, xs) :: L)) (j : Nat) : w.frozen? ⟨g, j, none⟩ = false := by
  have hl := h.len
  have hh := h.head
  rw [hl] at hh
  exact hh.frozenAt j
/-- A cell that was there before the call. -/
theorem Own.old {W0 w : World} {L : List Row} (h : Own W0 w L) {b o : Nat} {v : Value} (hc : W0.cell? ⟨b, o, none⟩ = some v) : w.cell? ⟨b, o, none⟩ = some v :=
  (h.below.cell (p := ⟨b, o, none⟩) (World.block_lt_of_cell? W0 _ hc)).trans hc

/-- What is appended: nothing of nil, or cells that lie somewhere. -/
def Src (w : World) (x : Value) (news : List Value) : Prop :=
  (x = .slice none 0 0 ∧ news = []) ∨ ∃ ad c, x = .slice (some ad) news.length c ∧ (∀ j u, news[j]? = some u → w.cell? (ad.add j) = some u) ∧ ∀ u ∈ news, u.oneCell' = true

section
variable {P : Program}
theorem run_append_src {W0 w : World} {L : List Row} {e t ty : TypeId} {v : Value} {xs news : List Value} (h : Own W0 w ((e, v, xs) :: L)) (i : TypeInfo) (z : Value) (bytes : Nat) (ht : P.underlying t = some (.slice e)) (hi : P.info? e = some i) (hz : i.zero = some z)
    (hsize : i.size = 1) (hby : i.bytes = bytes) (hzs : z.cells.size = 1) (x : Value) (hsrc : Src w x news) (h63 : xs.length + news.length ≤ maxLen) (hbytes : (xs.length + news.length) * bytes ≤ 140737488355328) :
    ∃ v' w', (Builtin.append_ #[t, t] ty #[v, x]).run P w = .ok v' w' ∧ Own W0 w' ((e, v', xs ++ news) :: L) := by
  rcases hsrc with ⟨rfl, rfl⟩ | ⟨ad, c, rfl, hnews, h1⟩
  · refine ⟨v, w, run_append_owned_none (P := P) w W0.heap.size t ty e i 1 ht hi v xs.length xs h.head, by simpa using h⟩
  · obtain ⟨v', w', hr, h2, h3, _, h5⟩ := run_append_own_at (P := P) w W0.heap.size t ty e i z 1 bytes ht hi hz hsize hby hzs (by decide) v xs.length xs h.head ad news.length c news (by omega) hnews h1 h63 hbytes h.size
    exact ⟨v', w', hr, h.grown (by rw [List.length_append]; exact h2) h3 h5⟩

/-- append at a step of a region that draws its order. -/
theorem step_append_src {ops : Array Oper} {o : Oper} {a : Act} {w : World} {K : Act → World → Prop} {Q : Exit → Act → World → Prop} {E : Prop} (hgd : o.guard = none) (s x : Operand) (t : TypeId)
    (ho : o.op = .call { callee := .builtin .append, args := #[s, x], argTypes := #[t, t] }) {W0 : World} {L : List Row} {e : TypeId} (v xv : Value) (xs news : List Value) (hs : a.eval s = v) (hx : a.eval x = xv) (h : Own W0 w ((e, v, xs) :: L)) (i : TypeInfo) (z : Value) (bytes : Nat) (ht : P.underlying t = some (.slice e)) (hi : P.info? e = some i) (hz : i.zero = some z)
    (hsize : i.size = 1) (hby : i.bytes = bytes) (hzs : z.cells.size = 1) (hsrc : ∀ W L, Own W0 W L → Src W xv news) (h63 : xs.length + news.length ≤ maxLen) (hbytes : (xs.length + news.length) * bytes ≤ 140737488355328)
    (hK : ∀ v' w', Own W0 w' ((e, v', xs ++ news) :: L) → K (a.put o.dst v') w') :
    if Region.wanted o (yielded ops a.tmps) = true then Oper.wp P o a w K Q else E := by
  have hw : Region.wanted o (yielded ops a.tmps) = true := by simp [Region.wanted, hgd]
  rw [if_pos hw]
  obtain ⟨v', w', hr, h2⟩ := run_append_src (P := P) (ty := o.type) h i z bytes ht hi hz hsize hby hzs xv (hsrc _ _ h) h63 hbytes
  unfold Oper.wp
  simp [execOp, ho, resolve, invoke, builtin, hs, hx, hr, Result.andThen]
  exact hK _ _ h2

/-- append in a plain region. -/
theorem wpList_append_src {ops : Array Oper} {rest : List Oper} {o : Oper} {a : Act} {w : World} {Q : Exit → Act → World → Prop} (hgd : o.guard = none) (s x : Operand) (t : TypeId)
    (ho : o.op = .call { callee := .builtin .append, args := #[s, x], argTypes := #[t, t] }) {W0 : World} {L : List Row} {e : TypeId} (v xv : Value) (xs news : List Value) (hs : a.eval s = v) (hx : a.eval x = xv) (h : Own W0 w ((e, v, xs) :: L)) (i : TypeInfo) (z : Value) (bytes : Nat) (ht : P.underlying t = some (.slice e)) (hi : P.info? e = some i) (hz : i.zero = some z)
    (hsize : i.size = 1) (hby : i.bytes = bytes) (hzs : z.cells.size = 1) (hsrc : Src w xv news) (h63 : xs.length + news.length ≤ maxLen) (hbytes : (xs.length + news.length) * bytes ≤ 140737488355328)
    (hK : ∀ v' w', Own W0 w' ((e, v', xs ++ news) :: L) → wpList P ops Q rest (a.put o.dst v') w') : wpList P ops Q (o :: rest) a w := by
  refine wpList_plain hgd fun K hk => ?_
  obtain ⟨v', w', hr, h2⟩ := run_append_src (P := P) (ty := o.type) h i z bytes ht hi hz hsize hby hzs xv hsrc h63 hbytes
  unfold Oper.wp
  simp [execOp, ho, resolve, invoke, builtin, hs, hx, hr, Result.andThen]
  exact hk _ _ (hK _ _ h2)
end
end Go.Proofs.Ytokokppifgoiaaa
