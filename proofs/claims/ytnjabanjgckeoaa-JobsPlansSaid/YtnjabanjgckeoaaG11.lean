/- What leans, as a list that grows: plain. -/
import Derived.Test.YtnjabanjgckeoaaG10
import Derived.Deep.QuietTactic
import Derived.BigQuiet
namespace Go.Proofs.Ytnjabanjgckeoaa
open Go.RowKit
open Go.ChangeMaps (setBlock)
set_option linter.unusedVariables false
set_option linter.unusedSimpArgs false
set_option maxRecDepth 100000

structure LnInv (us : List GU) (som l : List Nm) (k : Nat) : Prop where
  once : l.Nodup
  sub : ∀ x ∈ l, LeanR us som x
  base : ∀ n ∈ namesU us, n ∈ som → n ∈ l
  cl : ∀ j (hj : j < l.length), j < k → ∀ u ∈ us, (l[j] ∈ u.re ∨ l[j] ∈ u.pa) → u.name ∈ l
theorem len_of_sub {l m : List Nm} (hl : l.Nodup) (hm : m.Nodup) (h : ∀ x ∈ l, x ∈ m) : l.length ≤ m.length := by
  have hp : l.Perm (m.filter fun x => decide (x ∈ l)) := (List.perm_ext_iff_of_nodup hl (hm.filter _)).2 fun x => by
    rw [List.mem_filter, decide_eq_true_eq]
    exact ⟨fun hx => ⟨h x hx, hx⟩, fun hx => hx.2⟩
  rw [hp.length_eq]
  exact List.length_filter_le _ _
theorem LnInv.len {us : List GU} {som l : List Nm} {k : Nat} (h : LnInv us som l k) (hd : (namesU us).Nodup) : l.length ≤ us.length := by
  have := len_of_sub h.once hd fun x hx => (h.sub x hx).there
  simpa [namesU] using this
theorem LnInv.start {us : List GU} {ord som : List Nm} (hp : ord.Perm (namesU us)) (hd : (namesU us).Nodup) : LnInv us som (pick ord som) 0 := by
  refine ⟨((hp.nodup_iff).2 hd).filter _, fun x hx => ?_, fun n hn hs => ?_, fun j hj h => absurd h (Nat.not_lt_zero _)⟩
  · have := List.mem_filter.1 hx
    exact .base (hp.mem_iff.1 this.1) (by simpa using this.2)
  · exact List.mem_filter.2 ⟨hp.mem_iff.2 hn, by simpa using hs⟩
theorem LnInv.add {us : List GU} {som l : List Nm} {k : Nat} (h : LnInv us som l k) {x : Nm} (hk : l[k]? = some x) {u : GU} (hu : u ∈ us) (hx : x ∈ u.re ∨ x ∈ u.pa) (hn : u.name ∉ l) : LnInv us som (l ++ [u.name]) k := by
  have hxl : x ∈ l := by
    obtain ⟨h1, h2⟩ := List.getElem?_eq_some_iff.1 hk
    exact h2 ▸ List.getElem_mem h1
  have hkl : k < l.length := (List.getElem?_eq_some_iff.1 hk).1
  refine ⟨List.nodup_append.2 ⟨h.once, by simp, fun a ha b hb => ?_⟩, fun y hy => ?_, fun n h1 h2 => List.mem_append_left _ (h.base n h1 h2), fun j hj hjk u' hu' hl => ?_⟩
  · rw [List.mem_singleton.1 hb]
    exact fun e => hn (e ▸ ha)
  · rcases List.mem_append.1 hy with hy | hy
    · exact h.sub y hy
    · rw [List.mem_singleton.1 hy]
      exact .step hu hx (h.sub x hxl)
  · have hj' : j < l.length := by omega
    rw [List.getElem_append_left hj'] at hl
    exact List.mem_append_left _ (h.cl j hj' hjk u' hu' hl)
theorem LnInv.next {us : List GU} {som l : List Nm} {k : Nat} (h : LnInv us som l k) {x : Nm} (hk : l[k]? = some x) (hx : ∀ u ∈ us, (x ∈ u.re ∨ x ∈ u.pa) → u.name ∈ l) : LnInv us som l (k + 1) := by
  refine ⟨h.once, h.sub, h.base, fun j hj hjk u hu hl => ?_⟩
  by_cases e : j = k
  · subst e
    rw [List.getElem?_eq_getElem hj] at hk
    injection hk with hk
    exact hx u hu (hk ▸ hl)
  · exact h.cl j hj (by omega) u hu hl
theorem LnInv.fin {us : List GU} {som l : List Nm} (h : LnInv us som l l.length) : Just (sortN l) (LeanR us som) := by
  refine ⟨sortN_order l, sortN_nodup.2 h.once, fun n => ⟨fun hn => h.sub n (mem_sortN.1 hn), fun hn => mem_sortN.2 ?_⟩⟩
  induction hn with
  | base h1 h2 => exact h.base _ h1 h2
  | step hu hx _ ih =>
    obtain ⟨j, hj, e⟩ := List.getElem_of_mem ih
    exact h.cl j hj hj _ hu (by rw [e]; exact hx)
/-- Going on through units, for one of the list. -/
def LeRel (w : World) (bu : Nat) (xs : List UV) (us : List GU) (som : List Nm) (r k : Nat) (x : Nm) (v : Value) (wr : World) : Prop :=
  ∃ oi o done left l, GW w r bu xs oi o done left wr ∧ Own ⟨w, [(r, oi)]⟩ wr [rowSs v l] ∧ LnInv us som l k ∧ l[k]? = some x ∧ ∀ p ∈ done, (x ∈ (findU us p.name).re ∨ x ∈ (findU us p.name).pa) → p.name ∈ l
theorem contains_q (v : Value) (ls : List Nm) (x : Nm) (w : World) (h : Sts w v ls) (n : Nat) : Calls Try.prog 25 #[v, .string (toB x)] (w.drewN n) fun e w' => e = .returned (.bool (decide (x ∈ ls))) ∧ w' = w.drewN n :=
  (contains_any v ls x (w.drewN n) (h.later ⟨rfl, rfl, rfl, Nat.le_refl _, fun _ _ => rfl⟩)).mono fun e w' ⟨h1, h2⟩ => ⟨h1, h2.symm⟩
end Go.Proofs.Ytnjabanjgckeoaa
