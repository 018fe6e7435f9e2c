/- slices.IndexFunc and ContainsFunc over texts with whatever function that turns nothing that was there; append of one text to a row. -/
import Derived.Test.YtnjabanjgckeoaaG1
namespace Go.Proofs.Ytnjabanjgckeoaa
open Go.RowKit
open Go.ChangeMaps (setBlock)
set_option linter.unusedVariables false
set_option linter.unusedSimpArgs false
set_option maxRecDepth 100000

theorem idxF_hit {p : Nm → Bool} {l : List Nm} {k : Nat} (hk : k < l.length) (h : p l[k] = true) (hb : ∀ j (hj : j < l.length), j < k → p l[j] = false) : idxF p l = (k : Int) := by
  rcases idxF_cases p l with ⟨_, _, e⟩ | ⟨k', hk', _, e, e3, e4⟩
  · rw [e _ (List.getElem_mem hk)] at h; cases h
  · rw [e]
    have : k' = k := by
      rcases Nat.lt_trichotomy k' k with h1 | h1 | h1
      · rw [hb k' hk' h1] at e3; cases e3
      · exact h1
      · rw [e4 k hk h1] at h; cases h
    rw [this]
theorem idxF_miss {p : Nm → Bool} {l : List Nm} (hb : ∀ j (hj : j < l.length), p l[j] = false) : idxF p l = -1 := by
  rcases idxF_cases p l with ⟨_, e, _⟩ | ⟨k', hk', _, e, e3, e4⟩
  · exact e
  · rw [hb k' hk'] at e3; cases e3
theorem idxF_any (p : Nm → Bool) (l : List Nm) : decide (idxF p l ≥ 0) = l.any p := by
  rcases idxF_cases p l with ⟨_, e, h⟩ | ⟨k', hk', _, e, e3, e4⟩
  · rw [e, decide_eq_false (by omega)]
    exact (List.any_eq_false.2 fun x hx => by rw [h x hx]; simp).symm
  · rw [e, decide_eq_true (by omega)]
    exact (List.any_eq_true.2 ⟨_, List.getElem_mem hk', e3⟩).symm

set_option maxHeartbeats 2000000 in
theorem index_lb (g : Nat) (lb : Array Value) (p : Nm → Bool) (eg : ∀ args w, (callFunc g args).run Try.prog w = .ok (.enter g args) w) (v : Value) (ls : List Nm) (w : World) (h : Sts w v ls)
    (hp : ∀ (W : World) (x : Nm), x ∈ ls → Below w.heap.size w W → Calls Try.prog g (#[.string (toB x)] ++ lb) W fun e w' => e = .returned (.bool (p x)) ∧ Below W.heap.size W w') :
    Calls Try.prog 20 #[v, .func (.func g) #[] lb] w fun e w' => e = .returned (.int .i64 (idxF p ls)) ∧ Below w.heap.size w w' := by
  obtain ⟨a, c, rfl, h2, h3, h4⟩ := id h
  have h63 : ls.length ≤ 9223372036854775807 := by unfold maxLen at h3; omega
  have HC := Lib.hid h
  have HP := Lib.hid hp
  clear h h2 h3 h4 hp
  go_enter Try.func20, Try.ntmps20
  go_wp2_with fail
  go_loopw [8] (fun s8 wr => ∃ k : Nat, k ≤ ls.length ∧ s8 = .int .i64 k ∧ Hid (Below w.heap.size w wr) ∧ Hid (∀ j (hj : j < ls.length), j < k → p ls[j] = false)) (fun s8 _ => ls.length - (intOf s8).toNat)
  case atStart => exact ⟨0, Nat.zero_le _, rfl, Below.refl _ w, fun j _ hj => absurd hj (Nat.not_lt_zero _)⟩
  case round =>
    obtain ⟨k, hk, rfl, BW, A⟩ := hrel
    by_cases hlt : k < ls.length
    · obtain ⟨a', c', e, _, _, h4⟩ := HC.out.later BW.out
      injection e with e1 _ e3
      subst e1 e3
      obtain ⟨b, o, rfl, hb, hc⟩ := h4 (by omega)
      have l2 := hc k hlt
      have hcall := HP.out wr ls[k] (List.getElem_mem hlt) BW.out
      have HN := Lib.hid (fun (hq : p ls[k] = true) => idxF_hit hlt hq A.out)
      have HA := Lib.hid (fun (hq : p ls[k] = false) j (hj : j < ls.length) (hjk : j < k + 1) => (by
        rcases Nat.lt_or_ge j k with h | h
        · exact A.out j hj h
        · obtain rfl : j = k := by omega
          exact hq : p ls[j] = false))
      clear h4 hc
      generalize hy : ls[k] = y at l2 hcall
      have hyB := Lib.hid hy
      clear hy
      generalize toB y = yb at l2 hcall
      cases hq : p y with
      | true =>
        rw [hq] at hcall
        have hq' := Lib.hid hq
        clear hq
        go_wp2_with (go_at_fn g; refine hcall.mono ?_; rintro e w' ⟨rfl, hb'⟩)
        go_ret
        exact ⟨by rw [HN.out (by rw [hyB.out]; exact hq'.out)]; rfl, BW.out.trans (hb'.mono BW.out.size)⟩
      | false =>
        rw [hq] at hcall
        have hq' := Lib.hid hq
        clear hq
        go_wp2_with (go_at_fn g; refine hcall.mono ?_; rintro e w' ⟨rfl, hb'⟩)
        have HB := Lib.hid (BW.out.trans (hb'.mono BW.out.size))
        have HA2 := Lib.hid (HA.out (by rw [hyB.out]; exact hq'.out))
        go_roundw
        case rel => exact ⟨k + 1, by omega, by go_num, HB, HA2⟩
        case measure => simp [intOf]; omega
    · have HN := Lib.hid (idxF_miss (p := p) (l := ls) fun j hj => A.out j hj (by omega))
      go_wp2_with fail
      go_ret
      exact ⟨by rw [HN.out]; rfl, BW.out⟩
/-- The same with a bound receiver. -/
theorem index_bd (g : Nat) (bd : Value) (p : Nm → Bool) (eg : ∀ args w, (callFunc g args).run Try.prog w = .ok (.enter g args) w) (v : Value) (ls : List Nm) (w : World) (h : Sts w v ls)
    (hp : ∀ (W : World) (x : Nm), x ∈ ls → Below w.heap.size w W → Calls Try.prog g #[bd, .string (toB x)] W fun e w' => e = .returned (.bool (p x)) ∧ Below W.heap.size W w') :
    Calls Try.prog 20 #[v, .func (.func g) #[bd] #[]] w fun e w' => e = .returned (.int .i64 (idxF p ls)) ∧ Below w.heap.size w w' := by
  obtain ⟨a, c, rfl, h2, h3, h4⟩ := id h
  have h63 : ls.length ≤ 9223372036854775807 := by unfold maxLen at h3; omega
  have HC := Lib.hid h
  have HP := Lib.hid hp
  clear h h2 h3 h4 hp
  go_enter Try.func20, Try.ntmps20
  go_wp2_with fail
  go_loopw [8] (fun s8 wr => ∃ k : Nat, k ≤ ls.length ∧ s8 = .int .i64 k ∧ Hid (Below w.heap.size w wr) ∧ Hid (∀ j (hj : j < ls.length), j < k → p ls[j] = false)) (fun s8 _ => ls.length - (intOf s8).toNat)
  case atStart => exact ⟨0, Nat.zero_le _, rfl, Below.refl _ w, fun j _ hj => absurd hj (Nat.not_lt_zero _)⟩
  case round =>
    obtain ⟨k, hk, rfl, BW, A⟩ := hrel
    by_cases hlt : k < ls.length
    · obtain ⟨a', c', e, _, _, h4⟩ := HC.out.later BW.out
      injection e with e1 _ e3
      subst e1 e3
      obtain ⟨b, o, rfl, hb, hc⟩ := h4 (by omega)
      have l2 := hc k hlt
      have hcall := HP.out wr ls[k] (List.getElem_mem hlt) BW.out
      have HN := Lib.hid (fun (hq : p ls[k] = true) => idxF_hit hlt hq A.out)
      have HA := Lib.hid (fun (hq : p ls[k] = false) j (hj : j < ls.length) (hjk : j < k + 1) => (by
        rcases Nat.lt_or_ge j k with h | h
        · exact A.out j hj h
        · obtain rfl : j = k := by omega
          exact hq : p ls[j] = false))
      clear h4 hc
      generalize hy : ls[k] = y at l2 hcall
      have hyB := Lib.hid hy
      clear hy
      generalize toB y = yb at l2 hcall
      cases hq : p y with
      | true =>
        rw [hq] at hcall
        have hq' := Lib.hid hq
        clear hq
        go_wp2_with (go_at_fn g; refine hcall.mono ?_; rintro e w' ⟨rfl, hb'⟩)
        go_ret
        exact ⟨by rw [HN.out (by rw [hyB.out]; exact hq'.out)]; rfl, BW.out.trans (hb'.mono BW.out.size)⟩
      | false =>
        rw [hq] at hcall
        have hq' := Lib.hid hq
        clear hq
        go_wp2_with (go_at_fn g; refine hcall.mono ?_; rintro e w' ⟨rfl, hb'⟩)
        have HB := Lib.hid (BW.out.trans (hb'.mono BW.out.size))
        have HA2 := Lib.hid (HA.out (by rw [hyB.out]; exact hq'.out))
        go_roundw
        case rel => exact ⟨k + 1, by omega, by go_num, HB, HA2⟩
        case measure => simp [intOf]; omega
    · have HN := Lib.hid (idxF_miss (p := p) (l := ls) fun j hj => A.out j hj (by omega))
      go_wp2_with fail
      go_ret
      exact ⟨by rw [HN.out]; rfl, BW.out⟩
theorem containsF_lb (g : Nat) (lb : Array Value) (p : Nm → Bool) (eg : ∀ args w, (callFunc g args).run Try.prog w = .ok (.enter g args) w) (v : Value) (ls : List Nm) (w : World) (h : Sts w v ls)
    (hp : ∀ (W : World) (x : Nm), x ∈ ls → Below w.heap.size w W → Calls Try.prog g (#[.string (toB x)] ++ lb) W fun e w' => e = .returned (.bool (p x)) ∧ Below W.heap.size W w') :
    Calls Try.prog 41 #[v, .func (.func g) #[] lb] w fun e w' => e = .returned (.bool (ls.any p)) ∧ Below w.heap.size w w' := by
  have hi := index_lb g lb p eg v ls w h hp
  have HE := Lib.hid (idxF_any p ls)
  clear h hp
  generalize idxF p ls = r at *
  go_enter Try.func41, Try.ntmps41
  go_wp2_with (go_at_call 20; refine hi.mono ?_; rintro e w' ⟨rfl, hb⟩)
  go_ret
  exact ⟨by rw [← HE.out]; rfl, hb⟩
end Go.Proofs.Ytnjabanjgckeoaa
