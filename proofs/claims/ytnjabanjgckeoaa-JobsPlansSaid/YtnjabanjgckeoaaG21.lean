/- Has, same; what the law GraphLeans asks, plain. -/
import Derived.Test.YtnjabanjgckeoaaG20
namespace Go.Proofs.Ytnjabanjgckeoaa
open Go.RowKit
open Go.ChangeMaps (setBlock)
set_option linter.unusedVariables false
set_option linter.unusedSimpArgs false
set_option maxRecDepth 100000

set_option maxHeartbeats 1000000 in
theorem has14_any (v : Value) (ls : List Nm) (x : Nm) (w : World) (h : Sts w v ls) : Calls Try.prog 31 #[v, .string (toB x)] w fun e w' => e = .returned (.bool (decide (x ∈ ls))) ∧ w = w' := by
  obtain ⟨a, c, rfl, h2, h3, h4⟩ := h
  have h63 : (ls.length : Int) ≤ 9223372036854775807 := by unfold maxLen at h3; omega
  have H3 := Lib.hid h4
  clear h2 h3 h4
  go_enter Try.func31, Try.ntmps31
  go_wp2_with fail
  go_loopw [5] (fun i wr => ∃ k : Nat, k ≤ ls.length ∧ i = .int .i64 k ∧ w = wr ∧ Hid (∀ j (hj : j < ls.length), j < k → ls[j] ≠ x)) (fun i _ => ls.length - (intOf i).toNat)
  case atStart => exact ⟨0, Nat.zero_le _, rfl, rfl, fun j _ h => absurd h (by omega)⟩
  case round =>
    obtain ⟨k, hk, rfl, rfl, HA⟩ := hrel
    by_cases hlt : k < ls.length
    · obtain ⟨b, o, rfl, hb, hc⟩ := H3.out (by omega)
      have c1 := hc k hlt
      have kb := beq_nm ls[k] x
      have hz : (k : Int) < (ls.length : Int) := by omega
      clear hc
      by_cases he : ls[k] = x
      · have HN := Lib.hid (show decide (x ∈ ls) = true from decide_eq_true (he ▸ List.getElem_mem hlt))
        rw [decide_eq_true he] at kb
        clear he
        generalize ls[k] = l at *
        generalize toB l = lb at *
        generalize toB x = xb at *
        go_wp2_with fail
        go_ret
        exact ⟨by rw [HN.out]; rfl, rfl⟩
      · have HB := Lib.hid (show ∀ j (hj : j < ls.length), j < k + 1 → ls[j] ≠ x from fun j hj hjk => by
          rcases Nat.lt_or_ge j k with h | h
          · exact HA.out j hj h
          · obtain rfl : j = k := by omega
            exact he)
        rw [decide_eq_false he] at kb
        clear he
        generalize ls[k] = l at *
        generalize toB l = lb at *
        generalize toB x = xb at *
        go_wp2_with fail
        go_roundw
        case rel => exact ⟨k + 1, by omega, by go_num, trivial, HB⟩
        case measure => simp [intOf]; omega
    · have HN := Lib.hid (show decide (x ∈ ls) = false from decide_eq_false fun hm => by
        obtain ⟨j, hj, e⟩ := List.getElem_of_mem hm
        exact HA.out j hj (by omega) e)
      have hz : (ls.length : Int) ≤ (k : Int) := by omega
      go_wp2_with fail
      go_ret
      exact ⟨by rw [HN.out]; rfl, rfl⟩
theorem LeanR.iff_of {us : List GU} {s t : List Nm} (h1 : ∀ n, n ∈ namesU us → n ∈ s → LeanR us t n) {n : Nm} (h : LeanR us s n) : LeanR us t n := by
  induction h with
  | base h2 h3 => exact h1 _ h2 h3
  | step hu hx _ ih => exact .step hu hx ih
theorem PullR.iff_of {us : List GU} {s t : List Nm} (h1 : ∀ n, n ∈ namesU us → n ∈ s → PullR us t n) {n : Nm} (h : PullR us s n) : PullR us t n := by
  induction h with
  | base h2 h3 => exact h1 _ h2 h3
  | step hu hx _ ih => exact .step hu hx ih
theorem lean_on {us : List GU} {som l : List Nm} (hd : (namesU us).Nodup) (hl : Just l (LeanR us som)) {u : GU} (hu : u ∈ us) : (decide (u.name ∈ som) || (u.re ++ u.pa).any fun x => decide (x ∈ l)) = decide (u.name ∈ l) := by
  have hn : u.name ∈ namesU us := mem_names.2 ⟨u, hu, rfl⟩
  rw [Bool.eq_iff_iff]
  simp only [Bool.or_eq_true, decide_eq_true_eq, List.any_eq_true, List.mem_append]
  constructor
  · rintro (h | ⟨x, hx, hxl⟩)
    · exact (hl.mem _).2 (.base hn h)
    · exact (hl.mem _).2 (.step hu hx ((hl.mem _).1 hxl))
  · intro h
    have h1 := (hl.mem _).1 h
    generalize hm : u.name = m at h1
    cases h1 with
    | base _ h3 => exact .inl h3
    | @step u2 x hu2 hx hR =>
      have e1 := findU_mem hd hu
      have e2 := findU_mem hd hu2
      rw [hm] at e1
      rw [e1] at e2
      subst e2
      exact .inr ⟨x, hx, (hl.mem _).2 hR⟩
theorem lean_same {us : List GU} {s t l m : List Nm} (hl : Just l (LeanR us s)) (hm : Just m (LeanR us t)) (h1 : ∀ n ∈ namesU us, n ∈ s → LeanR us t n) (h2 : ∀ n ∈ namesU us, n ∈ t → LeanR us s n) : m = l :=
  (show Just m (LeanR us s) from ⟨hm.order, hm.once, fun n => (hm.mem n).trans ⟨LeanR.iff_of h2, LeanR.iff_of h1⟩⟩).uniq hl
theorem pull_same {us : List GU} {s t l m : List Nm} (hl : Just l (PullR us s)) (hm : Just m (PullR us t)) (h1 : ∀ n ∈ namesU us, n ∈ s → PullR us t n) (h2 : ∀ n ∈ namesU us, n ∈ t → PullR us s n) : m = l :=
  (show Just m (PullR us s) from ⟨hm.order, hm.once, fun n => (hm.mem n).trans ⟨PullR.iff_of h2, PullR.iff_of h1⟩⟩).uniq hl
theorem pick_twice (ord s : List Nm) : pick ord (s ++ s) = pick ord s := by
  unfold pick
  apply List.filter_congr
  intro x _
  rw [Bool.eq_iff_iff]
  simp
/-- Lean, and Pull, of names that come to the same. -/
theorem GAt.lean_of {w : World} {g : Nat} {us : List GU} {ord s t l : List Nm} {v : Value} (h : GAt w g us ord) (hv : Sts w v t) (hl : Just l (LeanR us s)) (h1 : ∀ n ∈ namesU us, n ∈ s → LeanR us t n) (h2 : ∀ n ∈ namesU us, n ∈ t → LeanR us s n) :
    Calls Try.prog 28 #[.pointer (some ⟨g, 0, none⟩), v] w fun e w' => ∃ v', e = .returned v' ∧ Sts w' v' l ∧ Below w.heap.size w w' :=
  (h.lean hv).mono fun e w' hp => by
    obtain ⟨v', m, rfl, hO, hJ⟩ := hp
    obtain rfl := lean_same hl hJ h1 h2
    exact ⟨v', rfl, hO.sts, hO.below⟩
theorem GAt.order_of {w : World} {g : Nat} {us : List GU} {ord s : List Nm} {v : Value} (h : GAt w g us ord) (hv : Sts w v s) :
    Calls Try.prog 27 #[.pointer (some ⟨g, 0, none⟩), v] w fun e w' => ∃ v', e = .returned v' ∧ Sts w' v' (pick ord s) ∧ Below w.heap.size w w' :=
  (h.order hv).mono fun e w' hp => by
    obtain ⟨v', rfl, hO⟩ := hp
    exact ⟨v', rfl, hO.sts, hO.below⟩
end Go.Proofs.Ytnjabanjgckeoaa
