/- Pull: some, and all that they require. -/
import Derived.Test.YtnjabanjgckeoaaG12
namespace Go.Proofs.Ytnjabanjgckeoaa
open Go.RowKit
open Go.ChangeMaps (setBlock)
set_option linter.unusedVariables false
set_option linter.unusedSimpArgs false
set_option maxRecDepth 100000

structure PlInv (us : List GU) (som l : List Nm) (k : Nat) : Prop where
  once : l.Nodup
  sub : ∀ x ∈ l, PullR us som x
  there : ∀ x ∈ l, x ∈ namesU us
  base : ∀ n ∈ namesU us, n ∈ som → n ∈ l
  cl : ∀ j (hj : j < l.length), j < k → ∀ y ∈ (findU us l[j]).re, y ∈ l
theorem PlInv.len {us : List GU} {som l : List Nm} {k : Nat} (h : PlInv us som l k) (hd : (namesU us).Nodup) : l.length ≤ us.length := by
  have := len_of_sub h.once hd h.there
  simpa [namesU] using this
theorem PlInv.start {us : List GU} {ord som : List Nm} (hp : ord.Perm (namesU us)) (hd : (namesU us).Nodup) : PlInv us som (pick ord som) 0 := by
  refine ⟨((hp.nodup_iff).2 hd).filter _, fun x hx => ?_, fun x hx => ?_, fun n hn hs => ?_, fun j hj h => absurd h (Nat.not_lt_zero _)⟩
  · have := List.mem_filter.1 hx
    exact .base (hp.mem_iff.1 this.1) (by simpa using this.2)
  · exact hp.mem_iff.1 (List.mem_filter.1 hx).1
  · exact List.mem_filter.2 ⟨hp.mem_iff.2 hn, by simpa using hs⟩
theorem PlInv.add {us : List GU} {som l : List Nm} {k : Nat} (h : PlInv us som l k) (hd : (namesU us).Nodup) (hreq : ∀ u ∈ us, ∀ y, (y ∈ u.re ∨ y ∈ u.pa) → y ∈ namesU us) {x y : Nm} (hk : l[k]? = some x) (hy : y ∈ (findU us x).re) (hn : y ∉ l) : PlInv us som (l ++ [y]) k := by
  obtain ⟨hkl, hke⟩ := List.getElem?_eq_some_iff.1 hk
  have hxl : x ∈ l := hke ▸ List.getElem_mem hkl
  obtain ⟨hu1, hu2⟩ := findU_of hd (h.there x hxl)
  refine ⟨List.nodup_append.2 ⟨h.once, by simp, fun a ha b hb => ?_⟩, fun z hz => ?_, fun z hz => ?_, fun n h1 h2 => List.mem_append_left _ (h.base n h1 h2), fun j hj hjk z hz => ?_⟩
  · rw [List.mem_singleton.1 hb]
    exact fun e => hn (e ▸ ha)
  · rcases List.mem_append.1 hz with hz | hz
    · exact h.sub z hz
    · rw [List.mem_singleton.1 hz]
      exact .step hu1 hy (by rw [hu2]; exact h.sub x hxl)
  · rcases List.mem_append.1 hz with hz | hz
    · exact h.there z hz
    · rw [List.mem_singleton.1 hz]
      exact hreq _ hu1 y (.inl hy)
  · have hj' : j < l.length := by omega
    rw [List.getElem_append_left hj'] at hz
    exact List.mem_append_left _ (h.cl j hj' hjk z hz)
theorem PlInv.next {us : List GU} {som l : List Nm} {k : Nat} (h : PlInv us som l k) {x : Nm} (hk : l[k]? = some x) (hx : ∀ y ∈ (findU us x).re, y ∈ l) : PlInv us som l (k + 1) := by
  refine ⟨h.once, h.sub, h.there, h.base, fun j hj hjk y hy => ?_⟩
  by_cases e : j = k
  · subst e
    rw [List.getElem?_eq_getElem hj] at hk
    injection hk with hk
    exact hx y (hk ▸ hy)
  · exact h.cl j hj (by omega) y hy
theorem PlInv.fin {us : List GU} {som l : List Nm} (h : PlInv us som l l.length) (hd : (namesU us).Nodup) : Just (sortN l) (PullR us som) := by
  refine ⟨sortN_order l, sortN_nodup.2 h.once, fun n => ⟨fun hn => h.sub n (mem_sortN.1 hn), fun hn => mem_sortN.2 ?_⟩⟩
  induction hn with
  | base h1 h2 => exact h.base _ h1 h2
  | @step u x hu hx _ ih =>
    obtain ⟨j, hj, e⟩ := List.getElem_of_mem ih
    exact h.cl j hj hj x (by rw [e, findU_mem hd hu]; exact hx)
theorem field_re (n0 : ByteArray) (v1 v2 v3 v4 v5 v6 : Value) (rt : Int) (w : World) : (Instr.field 44 (.agg #[.string n0, v1, v2, v3, v4, v5, v6, .int .i64 rt]) 4).run Try.prog w = .ok v4 w := by kernel_rfl
end Go.Proofs.Ytnjabanjgckeoaa
