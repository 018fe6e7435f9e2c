/- Texts one behind the other, each in a section of its own: what calls make of memory, step by step. -/
import Derived.Test.YtnjabanjgckeoaaGreatDoorPackMgrRetries14
import Derived.Test.YtnjabanjgckeoaaGreatDoorChecked
import Derived.Sort.OwnSorted
import Derived.Lib.OwnBridge
import Derived.Lib.SliceRun

/- Go's library over rows of texts: Contains, Clone, Sort, Reverse, Delete; IndexFunc and ContainsFunc with whatever function that turns nothing. -/
section
namespace Go.Proofs.YtnjabanjgckeoaaGreatDoor
open Go.RowKit
open Go.ChangeMaps (setBlock)
set_option linter.unusedVariables false
set_option linter.unusedSimpArgs false
set_option maxRecDepth 100000

theorem contains_any (v : Value) (ls : List Nm) (x : Nm) (w : World) (h : Sts w v ls) : Calls Tryz.prog 95 #[v, .string (toB x)] w fun e w' => e = .returned (.bool (decide (x ∈ ls))) ∧ w = w' := by
  obtain ⟨a, c, rfl, h2, h3, h4⟩ := h
  by_cases hn : 0 < ls.length
  · obtain ⟨b, o, rfl, hb, hc⟩ := h4 hn
    refine (Tryz.slices_Contains_string b o ls.length c (ls.map toB) (toB x) w (by simp) (by unfold maxLen at h3; omega) (fun j hj => ?_)).mono ?_
    · have hj' : j < ls.length := by simpa using hj
      rw [hc j hj']
      simp [List.getD, hj']
    · rintro e w' ⟨rfl, rfl⟩
      refine ⟨?_, rfl⟩
      have e1 : Lib.containsS ((ls.map toB).take ls.length) (toB x) = decide (x ∈ ls) := by
        rw [show (ls.map toB).take ls.length = ls.map toB from by rw [← List.map_take, List.take_length]]
        by_cases hx : x ∈ ls
        · rw [decide_eq_true hx]
          exact (Lib.containsS_iff _ _).2 (List.mem_map.2 ⟨x, hx, rfl⟩)
        · rw [decide_eq_false hx]
          rw [← Bool.not_eq_true]
          intro h9
          obtain ⟨y, hy, e⟩ := List.mem_map.1 ((Lib.containsS_iff _ _).1 h9)
          exact hx (toB_inj e ▸ hy)
      rw [e1]
  · have hz : ls = [] := List.eq_nil_of_length_eq_zero (by omega)
    subst hz
    refine (Tryz.slices_Contains_string_empty a c (toB x) w).mono ?_
    rintro e w' ⟨rfl, rfl⟩
    exact ⟨by simp, rfl⟩

/-! ### Rows of texts that are the call's own -/
section
variable {W0 : Base} {w : World} {L : List Rw} {v : Value} {ls : List Nm}
theorem row_form (h : Own W0 w (rowSs v ls :: L)) : (v = .slice none 0 0 ∧ ls = []) ∨ ∃ g cap cur, v = .slice (some ⟨g, 0, none⟩) ls.length cap ∧ W0.world.heap.size ≤ g ∧ w.heap[g]? = some (.cells cur 9 (0, 0)) ∧ ls.length ≤ cap ∧ cap ≤ maxLen ∧ cur.size = cap * 1 ∧ cur.toList.take ls.length = ls.map encStr := by
  have hown : w.ownsRow W0.world.heap.size 9 1 v ls.length (strs ls) := h.head
  rcases hown.2 with ⟨hv, hn⟩ | ⟨g, cap, cur, hv, hg, hb, hn, hcap, hsz, htk⟩
  · exact .inl ⟨hv, List.eq_nil_of_length_eq_zero hn⟩
  · exact .inr ⟨g, cap, cur, hv, hg, hb, hn, hcap, hsz, by rw [Nat.mul_one] at htk; exact htk⟩
theorem row_put {g cap n : Nat} {os : Array Obj} {cur : Array Value} {ts : List Nm} (h : Own W0 w (rowSs (.slice (some ⟨g, 0, none⟩) ls.length cap) ls :: L)) (hl : ts.length = ls.length) (hg : W0.world.heap.size ≤ g) (hb : w.heap[g]? = some (.cells cur 9 (0, 0))) (hn : ls.length ≤ cap) (hcap : cap ≤ maxLen) (hsz : cur.size = cap * 1) :
    Own W0 (Sort.grow (Sort.putRow encStr (Sort.ahead w n) g 0 ts.toArray) os) (rowSs (.slice (some ⟨g, 0, none⟩) ts.length cap) ts :: L) := by
  have h' : Own W0 w (⟨9, 1, .slice (some ⟨g, 0, none⟩) ls.length cap, ls.length, strs ls⟩ :: L) := h
  have hrow := ownsRow_sorted (n := n) (os := os) hl hg hb hn hcap hsz
  rw [← hl] at hrow
  exact Own.grown (h := h') (v' := .slice (some ⟨g, 0, none⟩) ts.length cap) (n' := ts.length) (ys := ts.map encStr) hrow (grownBy_sorted _) (.inl rfl)
/-- Fewer of a row. -/
theorem row_take {g n cap : Nat} (h : Own W0 w (rowSs (.slice (some ⟨g, 0, none⟩) ls.length cap) ls :: L)) (k : Nat) (hk : k ≤ ls.length) : Own W0 w (rowSs (.slice (some ⟨g, 0, none⟩) (ls.take k).length cap) (ls.take k) :: L) := by
  have hlen : (ls.take k).length = k := by rw [List.length_take]; omega
  have hown : w.ownsRow W0.world.heap.size 9 1 (.slice (some ⟨g, 0, none⟩) ls.length cap) ls.length (strs ls) := h.head
  have hap := List.pairwise_cons.1 h.apart
  refine ⟨h.below, fun p hp => ?_, List.pairwise_cons.2 ⟨fun q hq => hap.1 q hq, hap.2⟩, h.maps, fun m hm p hp => ?_⟩
  · rcases List.mem_cons.1 hp with rfl | hp
    · refine ⟨by simp [strs], ?_⟩
      rcases hown.2 with ⟨hv, hn⟩ | ⟨g', cap', cur, hv, hg, hb, hn, hcap, hsz, htk⟩
      · cases hv
      · refine .inr ⟨g', cap', cur, ?_, hg, hb, by show (ls.take k).length ≤ _; omega, hcap, hsz, ?_⟩
        · injection hv with e1 e2 e3
          show Value.slice _ _ _ = Value.slice _ _ _
          rw [e1, e3]
        · show List.take ((ls.take k).length * 1) cur.toList = strs (ls.take k)
          rw [Nat.mul_one, hlen]
          rw [Nat.mul_one] at htk
          have e9 : cur.toList.take k = (cur.toList.take ls.length).take k := by rw [List.take_take]; congr 1; omega
          rw [e9, htk]
          simp [strs]
    · exact h.rows p (List.mem_cons_of_mem _ hp)
  · rcases List.mem_cons.1 hp with rfl | hp
    · exact h.offmaps m hm (rowSs (.slice (some ⟨g, 0, none⟩) ls.length cap) ls) (List.mem_cons_self ..)
    · exact h.offmaps m hm p (List.mem_cons_of_mem _ hp)
theorem sortS_row (h : Own W0 w (rowSs v ls :: L)) (hl : ls.length ≤ 1000000) :
    Calls Tryz.prog 82 #[v] w fun e w' => e = .returned (.tuple #[]) ∧ Own W0 w' (rowSs v (sortN ls) :: L) := by
  rcases row_form h with ⟨rfl, rfl⟩ | ⟨g, cap, cur, rfl, hg, hb, hn, hcap, hsz, htk⟩
  · refine (AnyM.slices_Sort_string_none Tryz.sort82 none 0 w).mono ?_
    rintro e w' ⟨rfl, rfl⟩
    exact ⟨rfl, h⟩
  · refine (AnyM.slices_Sort_string Tryz.sort82 g 0 cap ls w (holds_of_block hb htk) (lt_of_heap hb) (by omega)).mono ?_
    rintro e w' ⟨rfl, n, os, rfl⟩
    refine ⟨rfl, ?_⟩
    rw [merge_sortN]
    have := row_put (n := n) (os := os) h (sortN_length ls) hg hb hn hcap hsz
    rw [sortN_length] at this
    show Own W0 _ (⟨9, 1, _, (sortN ls).length, strs (sortN ls)⟩ :: L)
    rw [sortN_length]
    have h9 : Own W0 _ (⟨9, 1, .slice (some ⟨g, 0, none⟩) ls.length cap, (sortN ls).length, strs (sortN ls)⟩ :: L) := this
    rwa [sortN_length] at h9
theorem delS_row (h : Own W0 w (rowSs v ls :: L)) (k : Nat) (hk : k < ls.length) (hl : ls.length ≤ 1000000) :
    Calls Tryz.prog 98 #[v, .int .i64 (k : Int), .int .i64 ((k : Int) + 1)] w fun e w' => ∃ v', e = .returned v' ∧ Own W0 w' (rowSs v' (ls.eraseIdx k) :: L) := by
  rcases row_form h with ⟨rfl, rfl⟩ | ⟨g, cap, cur, rfl, hg, hb, hn, hcap, hsz, htk⟩
  · exact absurd hk (Nat.not_lt_zero _)
  · have hc := Tryz.slices_Delete_string g 0 cap k (k + 1) ls w (holds_of_block hb htk) hn (by unfold maxLen at hcap; omega) (Nat.le_succ k) hk
    rw [show ((k + 1 : Nat) : Int) = (k : Int) + 1 from by omega] at hc
    refine hc.mono ?_
    rintro e w' ⟨rfl, n, rfl⟩
    rw [show k + 1 - k = 1 from by omega]
    refine ⟨_, rfl, ?_⟩
    have e1 : ls.take k ++ ls.drop (k + 1) = ls.eraseIdx k := (List.eraseIdx_eq_take_drop_succ ls k).symm
    rw [e1]
    have hel : (ls.eraseIdx k).length = ls.length - 1 := by rw [List.length_eraseIdx, if_pos hk]
    have hl2 : (ls.eraseIdx k ++ List.replicate 1 []).length = ls.length := by rw [List.length_append, hel]; simp; omega
    have h1 := row_put (n := n) (os := #[]) h hl2 hg hb hn hcap hsz
    rw [Sort.grow_empty] at h1
    have h2 := row_take (n := 0) h1 (ls.length - 1) (by omega)
    have e2 : (ls.eraseIdx k ++ List.replicate 1 ([] : Nm)).take (ls.length - 1) = ls.eraseIdx k := by rw [← hel, List.take_left']; rfl
    rw [e2] at h2
    rw [← hel]
    exact h2
end
theorem infoS : (Tryz.prog.info? 9).map (fun i => (i.zero, i.size, i.bytes)) = some (some (.string ⟨#[]⟩), 1, 16) := by kernel_rfl
theorem infoS_ex : ∃ i, Tryz.prog.info? 9 = some i ∧ i.zero = some (.string ⟨#[]⟩) ∧ i.size = 1 ∧ i.bytes = 16 := by
  have := infoS
  obtain ⟨i, h1, h2⟩ := Option.map_eq_some_iff.1 this
  simp only [Prod.mk.injEq] at h2
  exact ⟨i, h1, h2.1, h2.2.1, h2.2.2⟩
theorem Sts.src {w : World} {a : Option Addr} {c n : Nat} {ls : List Nm} (h : Sts w (.slice a n c) ls) (ha : a ≠ none) : n = ls.length ∧ ∃ ad, a = some ad ∧ Src w (.slice (some ad) n c) ls.length (strs ls) := by
  obtain ⟨a', c', h1, h2, h3, h4⟩ := h
  injection h1 with e1 e2 e3
  subst e1 e2 e3
  refine ⟨rfl, ?_⟩
  cases a with
  | none => exact absurd rfl ha
  | some ad =>
    refine ⟨ad, rfl, .inr ⟨ad, c, rfl, fun j u hj => ?_, fun u hu => ?_⟩⟩
    · have hjl : j < ls.length := by
        have := (List.getElem?_eq_some_iff.1 hj).1
        simpa [strs] using this
      obtain ⟨b, o, e, _, hc⟩ := h4 (by omega)
      injection e with e
      subst e
      rw [Addr.add_mid, hc j hjl]
      rw [strs_at ls j hjl] at hj
      exact hj
    · obtain ⟨y, _, rfl⟩ := List.mem_map.1 hu
      rfl
set_option maxHeartbeats 800000 in
theorem cloneS_sts (v : Value) (ls : List Nm) (w : World) (h : Sts w v ls) (hl : ls.length ≤ 1000000) :
    Calls Tryz.prog 80 #[v] w fun e w' => ∃ v', e = .returned v' ∧ Own w w' [rowSs v' ls] := by
  obtain ⟨i0, hi, hz0, hz1, hz2⟩ := infoS_ex
  obtain ⟨a, c, rfl, h2, h3, h4⟩ := id h
  cases a with
  | none =>
    have hn' : ls = [] := by
      rcases Nat.eq_zero_or_pos ls.length with h9 | h9
      · exact List.eq_nil_of_length_eq_zero h9
      · obtain ⟨b, o, e, _⟩ := h4 h9; cases e
    subst hn'
    have hnil : Sem.run Tryz.prog (binOp BinOp.eql 29 (.slice none 0 c) (.slice none 0 0)) w = .ok (.bool true) w := Lib.run_eql_slice_nil (P := Tryz.prog) w 29 9 none 0 c 0 0 Tryz.underlying29
    clear h h4 h2 h3
    go_enter Tryz.func80, Tryz.ntmps80
    go_wp2_with fail
    go_ret
    exact ⟨_, rfl, (Own.start w).nil _ _⟩
  | some ad =>
    obtain ⟨_, ad', e9, hs⟩ := Sts.src h (by simp)
    injection e9 with e9
    subst e9
    have hnil : Sem.run Tryz.prog (binOp BinOp.eql 29 (.slice (some ad) ls.length c) (.slice none 0 0)) w = .ok (.bool false) w := Lib.run_eql_slice_nil (P := Tryz.prog) w 29 9 (some ad) ls.length c 0 0 Tryz.underlying29
    have HO := Lib.hid ((Own.start w).made 9 1 #[] 0 rfl (Nat.zero_le _))
    have Hs := Lib.hid (hs.later (Below.alloc (Below.refl _ w) (Nat.le_refl _) (.cells #[] 9)))
    have Hl := Lib.hid (strs_length ls)
    have hl2 : 0 + ls.length ≤ maxLen := by unfold maxLen; omega
    have hl3 : (0 + ls.length) * 16 ≤ 140737488355328 := by omega
    clear hs h h4 h2 h3
    go_enter Tryz.func80, Tryz.ntmps80
    go_wp2_with (at_builtin; refine wpList_append_src rfl (.tmp 5) (.tmp 6) 29 rfl (.slice (some ⟨w.heap.size, 0, none⟩) 0 0) 0 [] (.slice (some ad) ls.length c) ls.length (strs ls) rfl rfl HO.out i0 (.string ⟨#[]⟩) 16 Tryz.underlying29 hi hz0 hz1 hz2 rfl (by decide) Hs.out (by rw [Hl.out, Nat.mul_one]) hl2 hl3 ?_)
    intro v' w' hO'
    have HO' := Lib.hid hO'
    clear hO'
    go_wp2_with fail
    go_ret
    have h9 : Own w w' [rowSs v' ls] := by have := HO'.out; simpa [rowSs] using this
    exact ⟨_, rfl, h9⟩
end Go.Proofs.YtnjabanjgckeoaaGreatDoor
end

/- slices.IndexFunc and ContainsFunc over texts with whatever function that turns nothing that was there; append of one text to a row. -/
section
namespace Go.Proofs.YtnjabanjgckeoaaGreatDoor
open Go.RowKit
open Go.ChangeMaps (setBlock)
set_option linter.unusedVariables false
set_option linter.unusedSimpArgs false
set_option maxRecDepth 100000

theorem idxF_hit {p : Nm → Bool} {l : List Nm} {k : Nat} (hk : k < l.length) (h : p l[k] = true) (hb : ∀ j (hj : j < l.length), j < k → p l[j] = false) : idxF p l = (k : Int) := by
  rcases idxF_cases p l with ⟨_, _, e⟩ | ⟨k', hk', _, e, e3, e4⟩
  · rw [e _ (List.getElem_mem hk)] at h; cases h
  · rw [e]
    have : k' = k := by
      rcases Nat.lt_trichotomy k' k with h1 | h1 | h1
      · rw [hb k' hk' h1] at e3; cases e3
      · exact h1
      · rw [e4 k hk h1] at h; cases h
    rw [this]
theorem idxF_miss {p : Nm → Bool} {l : List Nm} (hb : ∀ j (hj : j < l.length), p l[j] = false) : idxF p l = -1 := by
  rcases idxF_cases p l with ⟨_, e, _⟩ | ⟨k', hk', _, e, e3, e4⟩
  · exact e
  · rw [hb k' hk'] at e3; cases e3
theorem idxF_any (p : Nm → Bool) (l : List Nm) : decide (idxF p l ≥ 0) = l.any p := by
  rcases idxF_cases p l with ⟨_, e, h⟩ | ⟨k', hk', _, e, e3, e4⟩
  · rw [e, decide_eq_false (by omega)]
    exact (List.any_eq_false.2 fun x hx => by rw [h x hx]; simp).symm
  · rw [e, decide_eq_true (by omega)]
    exact (List.any_eq_true.2 ⟨_, List.getElem_mem hk', e3⟩).symm

set_option maxHeartbeats 2000000 in
theorem index_lb (g : Nat) (lb : Array Value) (p : Nm → Bool) (eg : ∀ args w, (callFunc g args).run Tryz.prog w = .ok (.enter g args) w) (v : Value) (ls : List Nm) (w : World) (h : Sts w v ls)
    (hp : ∀ (W : World) (x : Nm), x ∈ ls → Below w.heap.size w W → Calls Tryz.prog g (#[.string (toB x)] ++ lb) W fun e w' => e = .returned (.bool (p x)) ∧ Below W.heap.size W w') :
    Calls Tryz.prog 56 #[v, .func (.func g) #[] lb] w fun e w' => e = .returned (.int .i64 (idxF p ls)) ∧ Below w.heap.size w w' := by
  obtain ⟨a, c, rfl, h2, h3, h4⟩ := id h
  have h63 : ls.length ≤ 9223372036854775807 := by unfold maxLen at h3; omega
  have HC := Lib.hid h
  have HP := Lib.hid hp
  clear h h2 h3 h4 hp
  go_enter Tryz.func56, Tryz.ntmps56
  go_wp2_with fail
  go_loopw [8] (fun s8 wr => ∃ k : Nat, k ≤ ls.length ∧ s8 = .int .i64 k ∧ Hid (Below w.heap.size w wr) ∧ Hid (∀ j (hj : j < ls.length), j < k → p ls[j] = false)) (fun s8 _ => ls.length - (intOf s8).toNat)
  case atStart => exact ⟨0, Nat.zero_le _, rfl, Below.refl _ w, fun j _ hj => absurd hj (Nat.not_lt_zero _)⟩
  case round =>
    obtain ⟨k, hk, rfl, BW, A⟩ := hrel
    by_cases hlt : k < ls.length
    · obtain ⟨a', c', e, _, _, h4⟩ := HC.out.later BW.out
      injection e with e1 _ e3
      subst e1 e3
      obtain ⟨b, o, rfl, hb, hc⟩ := h4 (by omega)
      have l2 := hc k hlt
      have hcall := HP.out wr ls[k] (List.getElem_mem hlt) BW.out
      have HN := Lib.hid (fun (hq : p ls[k] = true) => idxF_hit hlt hq A.out)
      have HA := Lib.hid (fun (hq : p ls[k] = false) j (hj : j < ls.length) (hjk : j < k + 1) => (by
        rcases Nat.lt_or_ge j k with h | h
        · exact A.out j hj h
        · obtain rfl : j = k := by omega
          exact hq : p ls[j] = false))
      clear h4 hc
      generalize hy : ls[k] = y at l2 hcall
      have hyB := Lib.hid hy
      clear hy
      generalize toB y = yb at l2 hcall
      cases hq : p y with
      | true =>
        rw [hq] at hcall
        have hq' := Lib.hid hq
        clear hq
        go_wp2_with (go_at_fn g; refine hcall.mono ?_; rintro e w' ⟨rfl, hb'⟩)
        go_ret
        exact ⟨by rw [HN.out (by rw [hyB.out]; exact hq'.out)]; rfl, BW.out.trans (hb'.mono BW.out.size)⟩
      | false =>
        rw [hq] at hcall
        have hq' := Lib.hid hq
        clear hq
        go_wp2_with (go_at_fn g; refine hcall.mono ?_; rintro e w' ⟨rfl, hb'⟩)
        have HB := Lib.hid (BW.out.trans (hb'.mono BW.out.size))
        have HA2 := Lib.hid (HA.out (by rw [hyB.out]; exact hq'.out))
        go_roundw
        case rel => exact ⟨k + 1, by omega, by go_num, HB, HA2⟩
        case measure => simp [intOf]; omega
    · have HN := Lib.hid (idxF_miss (p := p) (l := ls) fun j hj => A.out j hj (by omega))
      go_wp2_with fail
      go_ret
      exact ⟨by rw [HN.out]; rfl, BW.out⟩
/-- The same with a bound receiver. -/
theorem index_bd (g : Nat) (bd : Value) (p : Nm → Bool) (eg : ∀ args w, (callFunc g args).run Tryz.prog w = .ok (.enter g args) w) (v : Value) (ls : List Nm) (w : World) (h : Sts w v ls)
    (hp : ∀ (W : World) (x : Nm), x ∈ ls → Below w.heap.size w W → Calls Tryz.prog g #[bd, .string (toB x)] W fun e w' => e = .returned (.bool (p x)) ∧ Below W.heap.size W w') :
    Calls Tryz.prog 56 #[v, .func (.func g) #[bd] #[]] w fun e w' => e = .returned (.int .i64 (idxF p ls)) ∧ Below w.heap.size w w' := by
  obtain ⟨a, c, rfl, h2, h3, h4⟩ := id h
  have h63 : ls.length ≤ 9223372036854775807 := by unfold maxLen at h3; omega
  have HC := Lib.hid h
  have HP := Lib.hid hp
  clear h h2 h3 h4 hp
  go_enter Tryz.func56, Tryz.ntmps56
  go_wp2_with fail
  go_loopw [8] (fun s8 wr => ∃ k : Nat, k ≤ ls.length ∧ s8 = .int .i64 k ∧ Hid (Below w.heap.size w wr) ∧ Hid (∀ j (hj : j < ls.length), j < k → p ls[j] = false)) (fun s8 _ => ls.length - (intOf s8).toNat)
  case atStart => exact ⟨0, Nat.zero_le _, rfl, Below.refl _ w, fun j _ hj => absurd hj (Nat.not_lt_zero _)⟩
  case round =>
    obtain ⟨k, hk, rfl, BW, A⟩ := hrel
    by_cases hlt : k < ls.length
    · obtain ⟨a', c', e, _, _, h4⟩ := HC.out.later BW.out
      injection e with e1 _ e3
      subst e1 e3
      obtain ⟨b, o, rfl, hb, hc⟩ := h4 (by omega)
      have l2 := hc k hlt
      have hcall := HP.out wr ls[k] (List.getElem_mem hlt) BW.out
      have HN := Lib.hid (fun (hq : p ls[k] = true) => idxF_hit hlt hq A.out)
      have HA := Lib.hid (fun (hq : p ls[k] = false) j (hj : j < ls.length) (hjk : j < k + 1) => (by
        rcases Nat.lt_or_ge j k with h | h
        · exact A.out j hj h
        · obtain rfl : j = k := by omega
          exact hq : p ls[j] = false))
      clear h4 hc
      generalize hy : ls[k] = y at l2 hcall
      have hyB := Lib.hid hy
      clear hy
      generalize toB y = yb at l2 hcall
      cases hq : p y with
      | true =>
        rw [hq] at hcall
        have hq' := Lib.hid hq
        clear hq
        go_wp2_with (go_at_fn g; refine hcall.mono ?_; rintro e w' ⟨rfl, hb'⟩)
        go_ret
        exact ⟨by rw [HN.out (by rw [hyB.out]; exact hq'.out)]; rfl, BW.out.trans (hb'.mono BW.out.size)⟩
      | false =>
        rw [hq] at hcall
        have hq' := Lib.hid hq
        clear hq
        go_wp2_with (go_at_fn g; refine hcall.mono ?_; rintro e w' ⟨rfl, hb'⟩)
        have HB := Lib.hid (BW.out.trans (hb'.mono BW.out.size))
        have HA2 := Lib.hid (HA.out (by rw [hyB.out]; exact hq'.out))
        go_roundw
        case rel => exact ⟨k + 1, by omega, by go_num, HB, HA2⟩
        case measure => simp [intOf]; omega
    · have HN := Lib.hid (idxF_miss (p := p) (l := ls) fun j hj => A.out j hj (by omega))
      go_wp2_with fail
      go_ret
      exact ⟨by rw [HN.out]; rfl, BW.out⟩
theorem containsF_lb (g : Nat) (lb : Array Value) (p : Nm → Bool) (eg : ∀ args w, (callFunc g args).run Tryz.prog w = .ok (.enter g args) w) (v : Value) (ls : List Nm) (w : World) (h : Sts w v ls)
    (hp : ∀ (W : World) (x : Nm), x ∈ ls → Below w.heap.size w W → Calls Tryz.prog g (#[.string (toB x)] ++ lb) W fun e w' => e = .returned (.bool (p x)) ∧ Below W.heap.size W w') :
    Calls Tryz.prog 94 #[v, .func (.func g) #[] lb] w fun e w' => e = .returned (.bool (ls.any p)) ∧ Below w.heap.size w w' := by
  have hi := index_lb g lb p eg v ls w h hp
  have HE := Lib.hid (idxF_any p ls)
  clear h hp
  generalize idxF p ls = r at *
  go_enter Tryz.func94, Tryz.ntmps94
  go_wp2_with (go_at_call 56; refine hi.mono ?_; rintro e w' ⟨rfl, hb⟩)
  go_ret
  exact ⟨by rw [← HE.out]; rfl, hb⟩
end Go.Proofs.YtnjabanjgckeoaaGreatDoor
end

/- Units and a graph in memory; has, missing, lacks, apart. -/
section
namespace Go.Proofs.YtnjabanjgckeoaaGreatDoor
open Go.RowKit
open Go.ChangeMaps (setBlock)
set_option linter.unusedVariables false
set_option linter.unusedSimpArgs false
set_option maxRecDepth 100000

/-- A unit's value. -/
structure UV where
  name : Nm
  v1 : Value
  v2 : Value
  v3 : Value
  v4 : Value
  v5 : Value
  v6 : Value
  ret : Int
def UV.cells (x : UV) : List Value := [.string (toB x.name), x.v1, x.v2, x.v3, x.v4, x.v5, x.v6, .int .i64 x.ret]
def UV.val (x : UV) : Value := .agg x.cells.toArray
def UV.zero : UV := ⟨[], .slice none 0 0, .slice none 0 0, .slice none 0 0, .slice none 0 0, .slice none 0 0, .slice none 0 0, 0⟩
structure UVIs (w : World) (x : UV) (u : GU) : Prop where
  name : x.name = u.name
  ret : x.ret = u.ret
  s1 : Sts w x.v1 u.fi
  s2 : Sts w x.v2 u.af
  s3 : Sts w x.v3 u.be
  s4 : Sts w x.v4 u.re
  s5 : Sts w x.v5 u.wa
  s6 : Sts w x.v6 u.pa
theorem Sts.one {w : World} {v : Value} {ls : List Nm} (h : Sts w v ls) : v.oneCell' = true := by
  obtain ⟨a, c, rfl, _⟩ := h
  rfl
theorem UVIs.one {w : World} {x : UV} {u : GU} (h : UVIs w x u) : ∀ v ∈ x.cells, v.oneCell' = true := by
  intro v hv
  simp only [UV.cells, List.mem_cons, List.not_mem_nil, or_false] at hv
  rcases hv with rfl | rfl | rfl | rfl | rfl | rfl | rfl | rfl
  · rfl
  · exact h.s1.one
  · exact h.s2.one
  · exact h.s3.one
  · exact h.s4.one
  · exact h.s5.one
  · exact h.s6.one
  · rfl
theorem info_uv : (Tryz.prog.info? 64).map (·.size) = some 8 := by kernel_rfl
theorem UVIs.later {w w' : World} {x : UV} {u : GU} (h : UVIs w x u) (hb : Below w.heap.size w w') : UVIs w' x u :=
  ⟨h.name, h.ret, h.s1.later hb, h.s2.later hb, h.s3.later hb, h.s4.later hb, h.s5.later hb, h.s6.later hb⟩
theorem sts_nil (w : World) : Sts w (.slice none 0 0) [] := ⟨none, 0, rfl, Nat.le_refl _, Nat.zero_le _, fun h => absurd h (Nat.lt_irrefl _)⟩
theorem UVIs.zero (w : World) : UVIs w UV.zero GU.zero := ⟨rfl, rfl, sts_nil w, sts_nil w, sts_nil w, sts_nil w, sts_nil w, sts_nil w⟩

abbrev keyN (n : Nm) : Value := .string (toB n)
theorem kindsN {kt : TypeId} {P : Program} (h : P.underlying kt = some .string) : Kinds P kt keyN := by
  have k := kinds_string h
  obtain ⟨d, h1, h2, h3⟩ := k.now
  exact ⟨⟨d, h1, fun a => h2 _, fun a b hab => h3 _ _ fun e => hab (toB_inj e)⟩, fun e a w => k.check e _ w, fun a => k.stays _⟩
/-- Units as a map's entries. -/
def entsU (xs : List UV) : List (Nm × Value) := xs.map fun x => (x.name, x.val)
inductive Units (w : World) : List UV → List GU → Prop
  | nil : Units w [] []
  | cons {x : UV} {u : GU} {xs : List UV} {us : List GU} : UVIs w x u → Units w xs us → Units w (x :: xs) (u :: us)
theorem Units.later {w w' : World} {xs : List UV} {us : List GU} (h : Units w xs us) (hb : Below w.heap.size w w') : Units w' xs us := by
  induction h with
  | nil => exact .nil
  | cons h1 _ ih => exact .cons (h1.later hb) ih
theorem Units.names {w : World} {xs : List UV} {us : List GU} (h : Units w xs us) : xs.map (·.name) = namesU us := by
  induction h with
  | nil => rfl
  | cons h1 _ ih => simp [namesU, h1.name] at ih ⊢; exact ih
/-- What is told of a name. -/
theorem Units.looks {w : World} {xs : List UV} {us : List GU} (h : Units w xs us) (n : Nm) : (n ∈ namesU us → ∃ x, look (entsU xs) n = some x.val ∧ x.name = n ∧ UVIs w x (findU us n)) ∧ (n ∉ namesU us → look (entsU xs) n = none) := by
  induction h with
  | nil => exact ⟨fun hn => by simp [namesU] at hn, fun _ => rfl⟩
  | @cons x u xs us h1 h2 ih =>
    by_cases hx : x.name = n
    · have hu : u.name = n := h1.name ▸ hx
      refine ⟨fun _ => ⟨x, ?_, hx, ?_⟩, fun hn => absurd (by rw [← hu]; simp [namesU]) hn⟩
      · unfold look entsU; simp [hx]
      · unfold findU; rw [List.find?_cons, decide_eq_true hu]; exact h1
    · have hu : ¬ u.name = n := fun e => hx (h1.name.trans e)
      have e1 : look (entsU (x :: xs)) n = look (entsU xs) n := by unfold entsU; rw [List.map_cons]; conv => lhs; unfold look; rw [if_neg hx]
      have e2 : findU (u :: us) n = findU us n := by unfold findU; rw [List.find?_cons, decide_eq_false hu]
      rw [e1, e2]
      refine ⟨fun hn => ih.1 ?_, fun hn => ih.2 ?_⟩
      · rcases List.mem_cons.1 hn with e | h
        · exact absurd e.symm hu
        · exact h
      · exact fun h => hn (List.mem_cons_of_mem _ h)
/-- The units' map of a graph. -/
structure UsAt (w : World) (g bu : Nat) (xs : List UV) (us : List GU) : Prop where
  cell : w.cell? ⟨g, 0, none⟩ = some (.map (some bu))
  map : ∃ o, w.heap[bu]? = some o ∧ MapO keyN o (entsU xs)
  units : Units w xs us
theorem UsAt.later {w w' : World} {g bu : Nat} {xs : List UV} {us : List GU} (h : UsAt w g bu xs us) (hb : Below w.heap.size w w') : UsAt w' g bu xs us := by
  obtain ⟨o, h1, h2⟩ := h.map
  have hg : g < w.heap.size := World.block_lt_of_cell? w ⟨g, 0, none⟩ h.cell
  exact ⟨(hb.cell (p := ⟨g, 0, none⟩) hg).trans h.cell, ⟨o, (hb.block _ (lt_of_heap h1)).trans h1, h2⟩, h.units.later hb⟩
theorem und_us : Tryz.prog.underlying 130 = some (.map 9 64) := by kernel_rfl
theorem und_str : Tryz.prog.underlying 9 = some .string := by kernel_rfl
theorem zero_unit (w : World) : (zeroValue 64).run Tryz.prog w = .ok UV.zero.val w := by
  rw [Tryz.zeroValue64]; rfl
theorem UsAt.lookup {w : World} {g bu : Nat} {xs : List UV} {us : List GU} (h : UsAt w g bu xs us) (n : Nm) : ∃ x, UVIs w x (findU us n) ∧ ∀ w2, Below w.heap.size w w2 → ∀ c, (Instr.lookup 130 (.map (some bu)) (.string (toB n)) c).run Tryz.prog w2 = .ok (if c then .tuple #[x.val, .bool (decide (n ∈ namesU us))] else x.val) w2 := by
  obtain ⟨o, h1, h2⟩ := h.map
  have hl := fun w2 (hb : Below w.heap.size w w2) c => h2.lookup (P := Tryz.prog) (kindsN und_str) und_us (zero_unit w2) ((hb.block _ (lt_of_heap h1)).trans h1) n c
  by_cases hn : n ∈ namesU us
  · obtain ⟨x, e1, _, e3⟩ := (h.units.looks n).1 hn
    refine ⟨x, e3, fun w2 hb c => ?_⟩
    rw [hl w2 hb c, e1, decide_eq_true hn]; rfl
  · have e1 := (h.units.looks n).2 hn
    refine ⟨UV.zero, by rw [findU_none hn]; exact UVIs.zero w, fun w2 hb c => ?_⟩
    rw [hl w2 hb c, e1, decide_eq_false hn]; rfl
set_option maxHeartbeats 1000000 in
theorem has_any {w : World} {g bu : Nat} {xs : List UV} {us : List GU} (h : UsAt w g bu xs us) (n : Nm) :
    Calls Tryz.prog 54 #[.pointer (some ⟨g, 0, none⟩), .string (toB n)] w fun e w' => e = .returned (.bool (decide (n ∈ namesU us))) ∧ Below w.heap.size w w' := by
  obtain ⟨x, hx, hl0⟩ := h.lookup n
  have hl := hl0 w (Below.refl _ _) true
  clear hl0
  have hc := h.cell
  simp only [if_true] at hl
  have hone := Lib.hid hx.one
  have hcs : (Tryz.prog.info? 64).map (·.size) = some x.cells.length := info_uv
  clear h hx
  unfold UV.val at hl
  generalize decide (n ∈ namesU us) = b at *
  generalize toB n = nb at *
  have h8 := Lib.hid (show (8 : Nat) = x.cells.length from rfl)
  generalize x.cells = cs at *
  go_enter Tryz.func54, Tryz.ntmps54
  go_wp2_with (refine wpList_store_new rfl 64 (.tmp 5) (.tmp 14) rfl (Own.start w) cs w.heap.size rfl rfl rfl h8.out hcs hone.out ?_)
  intro w' HO _
  have HB := Lib.hid HO.below
  clear HO
  go_wp2_with fail
  go_ret
  exact ⟨rfl, HB.out⟩
theorem missing_any {w : World} {g bu bx : Nat} {xs : List UV} {us : List GU} (h : UsAt w g bu xs us) (hx : w.cell? ⟨bx, 0, none⟩ = some (.pointer (some ⟨g, 0, none⟩))) (n : Nm) :
    Calls Tryz.prog 93 #[.string (toB n), .pointer (some ⟨bx, 0, none⟩)] w fun e w' => e = .returned (.bool (!decide (n ∈ namesU us))) ∧ Below w.heap.size w w' := by
  have hh := has_any h n
  clear h
  generalize decide (n ∈ namesU us) = b at *
  go_enter Tryz.func93, Tryz.ntmps93
  go_wp2_with (go_at_call 54; refine hh.mono ?_; rintro e w' ⟨rfl, hb⟩)
  go_ret
  exact ⟨rfl, hb⟩
end Go.Proofs.YtnjabanjgckeoaaGreatDoor
end

/- lacks; apart: the same unit in rows of its own. -/
section
namespace Go.Proofs.YtnjabanjgckeoaaGreatDoor
open Go.RowKit
open Go.ChangeMaps (setBlock)
set_option linter.unusedVariables false
set_option linter.unusedSimpArgs false
set_option maxRecDepth 100000

set_option maxHeartbeats 2000000 in
theorem lacks_any {w : World} {g bu : Nat} {xs : List UV} {us : List GU} (h : UsAt w g bu xs us) (n : Nm) :
    Calls Tryz.prog 57 #[.pointer (some ⟨g, 0, none⟩), .string (toB n)] w fun e w' => e = .returned (.bool (lacksU us n)) ∧ Below w.heap.size w w' := by
  have hB0 : Below w.heap.size w (w.alloc (.cells #[.pointer (some ⟨g, 0, none⟩)] 51)) := (Below.refl _ w).alloc (Nat.le_refl _) _
  obtain ⟨x, hx, hl0⟩ := h.lookup n
  have hl := hl0 _ hB0 false
  simp only [Bool.false_eq_true, if_false] at hl
  have hc := (h.later hB0).cell
  have HO0 := Lib.hid ((Own.start w).made 51 1 #[.pointer (some ⟨g, 0, none⟩)] 1 rfl (by unfold maxLen; decide))
  have hone := Lib.hid hx.one
  have hcs : (Tryz.prog.info? 64).map (·.size) = some x.cells.length := info_uv
  have H := Lib.hid h
  have HX := Lib.hid hx
  have h8 := Lib.hid (show (8 : Nat) = x.cells.length from rfl)
  have HE := Lib.hid (show lacksU us n = ((findU us n).re.any (fun x => !decide (x ∈ namesU us)) || (findU us n).pa.any (fun x => !decide (x ∈ namesU us))) from rfl)
  have H4 := Lib.hid (show x.cells[4]? = some x.v4 from rfl)
  have H6 := Lib.hid (show x.cells[6]? = some x.v6 from rfl)
  clear hl0 h hx hB0
  unfold UV.val at hl
  generalize toB n = nb at *
  generalize x.cells = cs at *
  go_enter Tryz.func57, Tryz.ntmps57
  go_wp2_with (refine wpList_store_new rfl 64 (.tmp 6) (.tmp 13) rfl HO0.out cs (w.heap.size + 1) (by simp) rfl rfl h8.out hcs hone.out ?_)
  intro w' HO1 _
  have hB := HO1.below
  have hU := H.out.later hB
  have hX := HX.out.later hB
  have c4 : w'.cell? ⟨w.heap.size + 1, 4, none⟩ = some x.v4 := by
    have := HO1.cell 4 (by rw [← h8.out]; decide)
    rw [this]; exact H4.out
  have c6 : w'.cell? ⟨w.heap.size + 1, 6, none⟩ = some x.v6 := by
    have := HO1.cell 6 (by rw [← h8.out]; decide)
    rw [this]; exact H6.out
  have cb : w'.cell? ⟨w.heap.size, 0, none⟩ = some (.pointer (some ⟨g, 0, none⟩)) := HO1.swap.cell 0 (by decide)
  have k1 := containsF_lb 93 #[.pointer (some ⟨w.heap.size, 0, none⟩)] (fun x => !decide (x ∈ namesU us)) (enters_of Tryz.func93 (by kernel_rfl) rfl) x.v4 _ w' hX.s4 (fun W y _ hb => missing_any (hU.later hb) (by rw [hb.cell (p := ⟨w.heap.size, 0, none⟩) (World.block_lt_of_cell? w' ⟨w.heap.size, 0, none⟩ cb)]; exact cb) y)
  have K2 := Lib.hid (fun w2 (hb2 : Below w'.heap.size w' w2) => containsF_lb 93 #[.pointer (some ⟨w.heap.size, 0, none⟩)] (fun x => !decide (x ∈ namesU us)) (enters_of Tryz.func93 (by kernel_rfl) rfl) x.v6 _ w2 (hX.s6.later hb2) (fun W y _ hb => missing_any ((hU.later hb2).later hb) (by rw [(hb2.trans (hb.mono hb2.size)).cell (p := ⟨w.heap.size, 0, none⟩) (World.block_lt_of_cell? w' ⟨w.heap.size, 0, none⟩ cb)]; exact cb) y))
  have C6 := Lib.hid c6
  have HB := Lib.hid hB
  have h6lt := Lib.hid (World.block_lt_of_cell? w' ⟨w.heap.size + 1, 6, none⟩ c6)
  clear hB hU hX cb c6 HO1
  generalize x.v4 = v4 at *
  generalize x.v6 = v6 at *
  cases hr : (findU us n).re.any (fun x => !decide (x ∈ namesU us)) with
  | true =>
    rw [hr] at k1
    have HR := Lib.hid hr
    clear hr
    go_wp2_with (go_at_call 94; refine k1.mono ?_; rintro e w' ⟨rfl, hb⟩)
    go_ret
    exact ⟨by rw [HE.out, HR.out]; rfl, HB.out.trans (hb.mono HB.out.size)⟩
  | false =>
    rw [hr] at k1
    have HR := Lib.hid hr
    clear hr
    go_wp2_with (first
      | (go_at_call 94; have _g := C6.out; clear _g; refine k1.mono ?_; rintro e w2 ⟨rfl, hb⟩; have c6 := (hb.cell (p := ⟨w.heap.size + 1, 6, none⟩) h6lt.out).trans C6.out; clear C6; have HB2 := Lib.hid hb; clear hb)
      | (go_at_call 94; refine (K2.out w2 HB2.out).mono ?_; rintro e w3 ⟨rfl, hb⟩))
    go_ret
    refine ⟨by rw [HE.out, HR.out]; rfl, HB.out.trans ((HB2.out.trans (hb.mono HB2.out.size)).mono HB.out.size)⟩
/-- The six rows of a unit. -/
def rows6 (y : UV) (u : GU) : List Rw := [rowSs y.v1 u.fi, rowSs y.v2 u.af, rowSs y.v3 u.be, rowSs y.v4 u.re, rowSs y.v5 u.wa, rowSs y.v6 u.pa]
structure Bnd (u : GU) : Prop where
  b1 : u.fi.length ≤ 1000000
  b2 : u.af.length ≤ 1000000
  b3 : u.be.length ≤ 1000000
  b4 : u.re.length ≤ 1000000
  b5 : u.wa.length ≤ 1000000
  b6 : u.pa.length ≤ 1000000
end Go.Proofs.YtnjabanjgckeoaaGreatDoor
end

/- apart: the same unit in rows of its own. -/
section
namespace Go.Proofs.YtnjabanjgckeoaaGreatDoor
open Go.RowKit
open Go.ChangeMaps (setBlock)
set_option linter.unusedVariables false
set_option linter.unusedSimpArgs false
set_option maxRecDepth 100000

def rowsL : List Value → List (List Nm) → List Rw
  | v :: vs, l :: ls => rowsL vs ls ++ [rowSs v l]
  | _, _ => []
theorem rowsL_snoc : ∀ (vs : List Value) (ls : List (List Nm)) (v : Value) (l : List Nm), vs.length = ls.length → rowsL (vs ++ [v]) (ls ++ [l]) = rowSs v l :: rowsL vs ls := by
  intro vs
  induction vs with
  | nil => intro ls v l h; cases ls with | nil => rfl | cons a r => simp at h
  | cons a r ih =>
    intro ls v l h
    cases ls with
    | nil => simp at h
    | cons b s =>
      simp only [List.cons_append, rowsL]
      rw [ih s v l (by simpa using h)]
      rfl
theorem Sts.shape {w : World} {v : Value} {ls : List Nm} (h : Sts w v ls) : ∃ a n c, v = .slice a n c := by
  obtain ⟨a, c, e, _⟩ := h
  exact ⟨a, _, c, e⟩
def ptr1 (b k : Nat) : Value := .pointer (some ⟨b, k, none⟩)
theorem box_at (n r : Value) (ys VS : List Value) (k : Nat) (hy : ys.length = k) (hk : k < VS.length) : ([n] ++ ys ++ VS.drop k ++ [r])[k + 1]? = some VS[k] ∧ ∀ v, ([n] ++ ys ++ VS.drop k ++ [r]).set (k + 1) v = [n] ++ (ys ++ [v]) ++ VS.drop (k + 1) ++ [r] := by
  have hd : VS.drop k = VS[k] :: VS.drop (k + 1) := List.drop_eq_getElem_cons _
  have hl : ([n] ++ ys).length = k + 1 := by simp; omega
  rw [hd]
  generalize VS[k] = x
  generalize VS.drop (k + 1) = t
  refine ⟨?_, fun v => ?_⟩
  · rw [List.append_assoc, List.getElem?_append_right (by omega), hl]; simp
  · rw [List.append_assoc, List.set_append_right _ _ (by omega), hl]; simp
theorem Own.oneV {W0 : Base} {w : World} {L : List Rw} (h : Own W0 w L) {p : Rw} (hp : p ∈ L) : p.v.oneCell' = true := by
  rcases (h.rows p hp).2 with ⟨e, _⟩ | ⟨g, c, cur, e, _⟩
  · rw [e]; rfl
  · rw [e]; rfl
theorem ret_cellG {P : Program} {fn : Func} {p : Tmp} {ty : TypeId} (h : fn.results = #[.cell p ty]) {tmps : Array Value} {w : World} {b : Nat} {cs : List Value} {d : TypeDesc} (hp : tmps.getD p undef = .pointer (some ⟨b, 0, none⟩))
    (hr : w.rangeAt b 0 cs) (ht : P.underlying ty = some d) (hd : d.isRow = true) (hi : (P.info? ty).map (·.size) = some cs.length) : (results fn tmps).run P w = .ok (.agg cs.toArray) w := by
  have e : (asAddr (.pointer (some ⟨b, 0, none⟩))).run P w = .ok ⟨b, 0, none⟩ w := rfl
  have hp' : tmps[p]?.getD undef = .pointer (some ⟨b, 0, none⟩) := by simpa using hp
  simp only [results, h]
  simp [Sem.run_bind, Result.andThen, hp', e, run_loadVar_mid w b 0 ty cs d hr ht hd hi]
set_option maxHeartbeats 4000000 in
theorem apart_any (w : World) (x : UV) (u : GU) (h : UVIs w x u) (hb : Bnd u) :
    Calls Tryz.prog 55 #[x.val] w fun e w' => ∃ y : UV, e = .returned y.val ∧ y.name = u.name ∧ y.ret = u.ret ∧ Own w w' (rows6 y u) := by
  have hname := h.name
  have hret := h.ret
  obtain ⟨n0, v1, v2, v3, v4, v5, v6, rt⟩ := x
  have S := Lib.hid (show ∀ k (hk : k < 6), ∃ l, u.lists[k]? = some l ∧ l.length ≤ 1000000 ∧ Sts w ([v1, v2, v3, v4, v5, v6].getD k undef) l from fun k hk => by
    match k, hk with
    | 0, _ => exact ⟨_, rfl, hb.b1, h.s1⟩
    | 1, _ => exact ⟨_, rfl, hb.b2, h.s2⟩
    | 2, _ => exact ⟨_, rfl, hb.b3, h.s3⟩
    | 3, _ => exact ⟨_, rfl, hb.b4, h.s4⟩
    | 4, _ => exact ⟨_, rfl, hb.b5, h.s5⟩
    | 5, _ => exact ⟨_, rfl, hb.b6, h.s6⟩)
  have hname : n0 = u.name := hname
  have hret : rt = u.ret := hret
  subst hname hret
  obtain ⟨a1, m1, c1, e1⟩ := h.s1.shape
  obtain ⟨a2, m2, c2, e2⟩ := h.s2.shape
  obtain ⟨a3, m3, c3, e3⟩ := h.s3.shape
  obtain ⟨a4, m4, c4, e4⟩ := h.s4.shape
  obtain ⟨a5, m5, c5, e5⟩ := h.s5.shape
  obtain ⟨a6, m6, c6, e6⟩ := h.s6.shape
  simp only at e1 e2 e3 e4 e5 e6
  subst e1 e2 e3 e4 e5 e6
  have HU := Lib.hid (show u.lists.length = 6 from rfl)
  have HF := Lib.hid (show ∀ y : UV, rowsL [y.v1, y.v2, y.v3, y.v4, y.v5, y.v6] u.lists = (rows6 y u).reverse from fun y => rfl)
  clear h hb
  have O1 := (Own.start w).made_at 64 8 #[.string (toB u.name), .slice a1 m1 c1, .slice a2 m2 c2, .slice a3 m3 c3, .slice a4 m4 c4, .slice a5 m5 c5, .slice a6 m6 c6, .int .i64 u.ret] 1 w.heap.size rfl rfl (by unfold maxLen; decide)
  have O2 := O1.made_at 64 8 #[.string ⟨#[]⟩, .slice none 0 0, .slice none 0 0, .slice none 0 0, .slice none 0 0, .slice none 0 0, .slice none 0 0, .int .i64 0] 1 (w.heap.size + 1) (by simp) rfl (by unfold maxLen; decide)
  have O3 := O2.made_at 182 1 #[.pointer (some ⟨w.heap.size, 1, none⟩), .pointer (some ⟨w.heap.size, 2, none⟩), .pointer (some ⟨w.heap.size, 3, none⟩), .pointer (some ⟨w.heap.size, 4, none⟩), .pointer (some ⟨w.heap.size, 5, none⟩), .pointer (some ⟨w.heap.size, 6, none⟩)] 6 (w.heap.size + 1 + 1) (by simp) rfl (by unfold maxLen; decide)
  obtain ⟨W3, hW3⟩ : ∃ W3, W3 = ((w.alloc (.cells #[.string (toB u.name), .slice a1 m1 c1, .slice a2 m2 c2, .slice a3 m3 c3, .slice a4 m4 c4, .slice a5 m5 c5, .slice a6 m6 c6, .int .i64 u.ret] 64)).alloc (.cells #[.string ⟨#[]⟩, .slice none 0 0, .slice none 0 0, .slice none 0 0, .slice none 0 0, .slice none 0 0, .slice none 0 0, .int .i64 0] 64)).alloc (.cells #[.pointer (some ⟨w.heap.size, 1, none⟩), .pointer (some ⟨w.heap.size, 2, none⟩), .pointer (some ⟨w.heap.size, 3, none⟩), .pointer (some ⟨w.heap.size, 4, none⟩), .pointer (some ⟨w.heap.size, 5, none⟩), .pointer (some ⟨w.heap.size, 6, none⟩)] 182) := ⟨_, rfl⟩
  rw [← hW3] at O3
  have HW3 := Lib.hid hW3
  show Calls Tryz.prog 55 #[.agg #[.string (toB u.name), .slice a1 m1 c1, .slice a2 m2 c2, .slice a3 m3 c3, .slice a4 m4 c4, .slice a5 m5 c5, .slice a6 m6 c6, .int .i64 u.ret]] w _
  obtain ⟨VS, hVS⟩ : ∃ VS, VS = [Value.slice a1 m1 c1, .slice a2 m2 c2, .slice a3 m3 c3, .slice a4 m4 c4, .slice a5 m5 c5, .slice a6 m6 c6] := ⟨_, rfl⟩
  have hVl : VS.length = 6 := by rw [hVS]; rfl
  obtain ⟨ZL, hZL⟩ : ∃ ZL : List Value, ZL = (#[.string ⟨#[]⟩, .slice none 0 0, .slice none 0 0, .slice none 0 0, .slice none 0 0, .slice none 0 0, .slice none 0 0, .int .i64 0] : Array Value).toList := ⟨_, rfl⟩
  obtain ⟨PL, hPL⟩ : ∃ PL : List Value, PL = (#[.pointer (some ⟨w.heap.size, 1, none⟩), .pointer (some ⟨w.heap.size, 2, none⟩), .pointer (some ⟨w.heap.size, 3, none⟩), .pointer (some ⟨w.heap.size, 4, none⟩), .pointer (some ⟨w.heap.size, 5, none⟩), .pointer (some ⟨w.heap.size, 6, none⟩)] : Array Value).toList := ⟨_, rfl⟩
  have HP := Lib.hid (show ∀ k, k < 6 → PL[k]? = some (.pointer (some ⟨w.heap.size, k + 1, none⟩)) from fun k hk => by
    rw [hPL]
    match k, hk with
    | 0, _ => rfl
    | 1, _ => rfl
    | 2, _ => rfl
    | 3, _ => rfl
    | 4, _ => rfl
    | 5, _ => rfl)
  have HS := Lib.hid (show ∀ k (hk : k < VS.length), ∃ l, u.lists[k]? = some l ∧ l.length ≤ 1000000 ∧ Sts w VS[k] l from fun k hk => by
    obtain ⟨l, e1, e2, e3⟩ := S.out k (by omega)
    refine ⟨l, e1, e2, ?_⟩
    rw [← hVS, List.getD, List.getElem?_eq_getElem hk] at e3
    exact e3)
  have HO : Hid (Own w W3 (⟨64, 8, .slice (some ⟨w.heap.size, 0, none⟩) 1 1, 1, [Value.string (toB u.name)] ++ [] ++ VS.drop 0 ++ [Value.int .i64 u.ret]⟩ :: ⟨182, 1, .slice (some ⟨w.heap.size + 1 + 1, 0, none⟩) 6 6, 6, PL⟩ :: ⟨64, 8, .slice (some ⟨w.heap.size + 1, 0, none⟩) 1 1, 1, ZL⟩ :: [])) := by
    rw [hVS, hPL, hZL]
    exact O3.third
  have HZ := Lib.hid (show ZL.length = 8 from by rw [hZL]; rfl)
  have HVl := Lib.hid hVl
  clear O1 O2 O3 hW3 hVS hZL hPL hVl S hret hname
  generalize hnb : toB u.name = nb at HW3 HO ⊢
  generalize hrt : u.ret = rt at HW3 HO ⊢
  have HNB := Lib.hid hnb
  have HRT := Lib.hid hrt
  clear hnb hrt
  go_enter Tryz.func55, Tryz.ntmps55
  go_wp2_with fail
  rw [← HW3.out]
  clear HW3
  go_loopw [13] (fun s wr => ∃ (k : Nat) (ys : List Value), k ≤ 6 ∧ s = .int .i64 k ∧ Hid (ys.length = k) ∧ Hid (Own w wr (⟨64, 8, .slice (some ⟨w.heap.size, 0, none⟩) 1 1, 1, [Value.string nb] ++ ys ++ VS.drop k ++ [Value.int .i64 rt]⟩ :: ⟨182, 1, .slice (some ⟨w.heap.size + 1 + 1, 0, none⟩) 6 6, 6, PL⟩ :: ⟨64, 8, .slice (some ⟨w.heap.size + 1, 0, none⟩) 1 1, 1, ZL⟩ :: rowsL ys (u.lists.take k)))) (fun s _ => 6 - (intOf s).toNat)
  case atStart => exact ⟨0, [], Nat.zero_le _, rfl, rfl, HO.out⟩
  case round =>
    obtain ⟨k, ys, hk, rfl, HY, HR⟩ := hrel
    by_cases hlt : k < 6
    · obtain ⟨l, hl1, hl2, hl3⟩ := HS.out k (by rw [HVl.out]; exact hlt)
      have cp : wr.cell? ⟨w.heap.size + 1 + 1, k, none⟩ = some (.pointer (some ⟨w.heap.size, k + 1, none⟩)) := by
        rw [HR.out.swap.cell k (by omega)]; exact HP.out k hlt
      obtain ⟨hat, hset⟩ := box_at (.string nb) (.int .i64 rt) ys VS k HY.out (by rw [HVl.out]; exact hlt)
      have cv : wr.cell? ⟨w.heap.size, k + 1, none⟩ = some (VS[k]'(by rw [HVl.out]; exact hlt)) := by
        rw [HR.out.cell (k + 1) (by omega)]; exact hat
      have fv : wr.frozen? ⟨w.heap.size, k + 1, none⟩ = false := HR.out.free (k + 1)
      have hcall := cloneS_sts _ l wr (hl3.later HR.out.below) hl2
      have HSet := Lib.hid hset
      have Hl1 := Lib.hid hl1
      clear hl1 hl2 hl3 hat hset
      generalize hvk : (VS[k]'(by rw [HVl.out]; exact hlt)) = vk at *
      have Hvk := Lib.hid hvk
      clear hvk
      go_wp2_with (go_at_call 80; refine hcall.mono ?_; rintro e w8 ⟨v8, rfl, hO8⟩; have HO8 := Lib.hid (HR.out.join hO8); have hb8 := hO8.below; have cp8 := hb8.cell (p := ⟨w.heap.size, k + 1, none⟩) (World.block_lt_of_cell? wr ⟨w.heap.size, k + 1, none⟩ cv); have cv8 := cp8.trans cv; have fv8 : w8.frozen? ⟨w.heap.size, k + 1, none⟩ = false := (show Own w w8 (_ :: _) from HO8.out.swap).free (k + 1); obtain ⟨a8, n8, c8, rfl⟩ := hO8.sts.shape; clear hb8 cp8 cv fv cp)
      have HO9 := Lib.hid ((show Own w w8 (_ :: _) from HO8.out.swap).set (k + 1) (.slice a8 n8 c8))
      rw [HSet.out] at HO9
      go_roundw
      case rel =>
        refine ⟨k + 1, ys ++ [.slice a8 n8 c8], by omega, by go_num, (by show (ys ++ [Value.slice a8 n8 c8]).length = k + 1; simp [HY.out]), (show Own _ _ _ from ?_)⟩
        have e1 : u.lists.take (k + 1) = u.lists.take k ++ [l] := by
          rw [List.take_add_one, Hl1.out]; rfl
        rw [e1, rowsL_snoc _ _ _ _ (by rw [HY.out, List.length_take, HU.out]; omega)]
        exact HO9.out.perm ((((List.Perm.swap _ _ _).cons _).trans (((List.Perm.swap _ _ _).cons _).cons _)).trans (List.Perm.refl _))
      case measure => simp [intOf]; omega
    · obtain rfl : k = 6 := by omega
      obtain ⟨y1, y2, y3, y4, y5, y6, rfl⟩ : ∃ a b c d e f, ys = [a, b, c, d, e, f] := by
        match ys, HY.out with
        | [a, b, c, d, e, f], _ => exact ⟨a, b, c, d, e, f, rfl⟩
      have e0 : [Value.string nb] ++ [y1, y2, y3, y4, y5, y6] ++ VS.drop 6 ++ [Value.int .i64 rt] = [Value.string nb, y1, y2, y3, y4, y5, y6, .int .i64 rt] := by
        rw [List.drop_eq_nil_of_le (by rw [HVl.out]; exact Nat.le_refl _)]; rfl
      have hR := HR.out
      rw [e0, show u.lists.take 6 = u.lists from List.take_of_length_le (by rw [HU.out]; exact Nat.le_refl _)] at hR
      have hR6 := HF.out ⟨u.name, y1, y2, y3, y4, y5, y6, rt⟩
      simp only at hR6
      rw [hR6] at hR
      have hone : ∀ v ∈ [Value.string nb, y1, y2, y3, y4, y5, y6, .int .i64 rt], v.oneCell' = true := by
        have k1 := fun p (hp : p ∈ rows6 ⟨u.name, y1, y2, y3, y4, y5, y6, rt⟩ u) => hR.oneV (p := p) (List.mem_cons_of_mem _ (List.mem_cons_of_mem _ (List.mem_cons_of_mem _ (List.mem_reverse.2 hp))))
        intro v hv
        simp only [List.mem_cons, List.not_mem_nil, or_false] at hv
        rcases hv with rfl | rfl | rfl | rfl | rfl | rfl | rfl | rfl
        · rfl
        · exact k1 (rowSs _ _) (List.mem_cons_self ..)
        · exact k1 (rowSs _ _) (List.mem_cons_of_mem _ (List.mem_cons_self ..))
        · exact k1 (rowSs _ _) (List.mem_cons_of_mem _ (List.mem_cons_of_mem _ (List.mem_cons_self ..)))
        · exact k1 (rowSs _ _) (List.mem_cons_of_mem _ (List.mem_cons_of_mem _ (List.mem_cons_of_mem _ (List.mem_cons_self ..))))
        · exact k1 (rowSs _ _) (List.mem_cons_of_mem _ (List.mem_cons_of_mem _ (List.mem_cons_of_mem _ (List.mem_cons_of_mem _ (List.mem_cons_self ..)))))
        · exact k1 (rowSs _ _) (List.mem_cons_of_mem _ (List.mem_cons_of_mem _ (List.mem_cons_of_mem _ (List.mem_cons_of_mem _ (List.mem_cons_of_mem _ (List.mem_cons_self ..))))))
        · rfl
      have HR2 := Lib.hid hR
      have HOne := Lib.hid hone
      have hr1 : wr.rangeAt w.heap.size 0 [Value.string nb, y1, y2, y3, y4, y5, y6, .int .i64 rt] := by
        have := hR.range 0 8
        simpa using this
      have hth : wr.there (w.heap.size + 1) 0 8 := (hR.third).there 0 8 (by decide)
      clear hR hR6 e0 hone
      go_wp2_with (first
        | (refine wpList_load_mid rfl 64 (.tmp 1) rfl w.heap.size 0 rfl [Value.string nb, y1, y2, y3, y4, y5, y6, .int .i64 rt] _ hr1 Tryz.underlying64 rfl info_uv ?_)
        | (refine wpList_store_mid rfl 64 (.tmp 2) (.tmp 24) rfl (w.heap.size + 1) 0 #[Value.string nb, y1, y2, y3, y4, y5, y6, .int .i64 rt] rfl rfl hth info_uv (all_oneCell_toArray HOne.out) ?_))
      have h9 := HR2.out.third.setCells [Value.string nb, y1, y2, y3, y4, y5, y6, .int .i64 rt] 0
      rw [splice_all' ZL _ (by rw [HZ.out]; rfl)] at h9
      have hr9 := h9.range 0 8
      refine bodyPost_ret (v := .agg [Value.string nb, y1, y2, y3, y4, y5, y6, .int .i64 rt].toArray) (ret_cellG Tryz.results55 rfl (by simpa using hr9) Tryz.underlying64 rfl info_uv) rfl ?_
      refine ⟨⟨u.name, y1, y2, y3, y4, y5, y6, rt⟩, ?_, rfl, rfl, h9.tail.tail.tail.perm (List.reverse_perm _)⟩
      show Ending.returned (Value.agg [Value.string nb, y1, y2, y3, y4, y5, y6, .int .i64 rt].toArray) = Ending.returned (Value.agg [Value.string (toB u.name), y1, y2, y3, y4, y5, y6, .int .i64 rt].toArray)
      rw [HNB.out]
end Go.Proofs.YtnjabanjgckeoaaGreatDoor
end

/- Going through a graph's units; ahead. -/
section
namespace Go.Proofs.YtnjabanjgckeoaaGreatDoor
open Go.RowKit
open Go.ChangeMaps (setBlock)
set_option linter.unusedVariables false
set_option linter.unusedSimpArgs false
set_option maxRecDepth 100000

theorem below_setG {B : Nat} {a w : World} (h : Below B a w) {r : Nat} (hr : B ≤ r) (o : Obj) : Below B a (setBlock w r o) :=
  h.trans ⟨rfl, rfl, rfl, by simp [setBlock], fun i hi => by
    have : r ≠ i := by omega
    simp [setBlock, this]⟩
/-- Going through units by the iterator at r, where what lay in w's blocks is as it was. -/
def GW (w : World) (r bu : Nat) (xs : List UV) (oi o : Obj) (done left : List UV) (wr : World) : Prop :=
  wr.heap[r]? = some oi ∧ w.heap[bu]? = some o ∧ IterO keyN oi bu o (entsU xs) (entsU left) ∧ (done ++ left).Perm xs ∧ Below w.heap.size w wr ∧ w.heap.size ≤ r
theorem GW.start {w w1 : World} {g bu : Nat} {xs : List UV} {us : List GU} (h : UsAt w g bu xs us) (hb : Below w.heap.size w w1) : ∃ oi o, (Instr.range 130 (.map (some bu))).run Tryz.prog w1 = .ok (.pointer (some ⟨w1.heap.size, 0, none⟩)) (w1.alloc oi) ∧ GW w w1.heap.size bu xs oi o [] xs (w1.alloc oi) := by
  obtain ⟨o, h1, h2⟩ := h.map
  obtain ⟨oi, h3, h4⟩ := h2.range und_us ((hb.block _ (lt_of_heap h1)).trans h1)
  exact ⟨oi, o, h3, (MapKept.heap_alloc w1 _).1, h1, h4, List.Perm.refl _, hb.alloc hb.size _, hb.size⟩
theorem GW.next {w wr : World} {r bu : Nat} {xs : List UV} {oi o : Obj} {done left : List UV} (h : GW w r bu xs oi o done left wr) :
    (left = [] ∧ ∀ ty, (Instr.next (.pointer (some ⟨r, 0, none⟩)) false ty).run Tryz.prog wr = .ok (.tuple #[.bool false]) wr) ∨
    ∃ (l1 l2 : List UV) (p : UV) (oi' : Obj) (w1 : World), left = l1 ++ p :: l2 ∧ (w1 = wr ∨ w1 = wr.drew) ∧ (∀ ty, (Instr.next (.pointer (some ⟨r, 0, none⟩)) false ty).run Tryz.prog wr = .ok (.tuple #[.bool true, .string (toB p.name), p.val]) (setBlock w1 r oi')) ∧
      GW w r bu xs oi' o (done ++ [p]) (l1 ++ l2) (setBlock w1 r oi') ∧ p ∈ xs ∧
      (∀ u : World, u.heap[r]? = some oi' → u.heap[bu]? = some o → (Instr.entry (.pointer (some ⟨r, 0, none⟩))).run Tryz.prog u = .ok (.tuple #[.string (toB p.name), p.val]) u) := by
  obtain ⟨h1, h2, h3, h4, h5, h6⟩ := h
  have hlt := lt_of_heap h2
  have h2' : wr.heap[bu]? = some o := (h5.block _ hlt).trans h2
  rcases h3.next (P := Tryz.prog) 0 h1 h2' with ⟨g1, g2⟩ | ⟨x, y, z, w1, oi', g1, g2, g3, g4, g5⟩
  · left
    have : left = [] := List.map_eq_nil_iff.1 g1
    exact ⟨this, fun ty => g2⟩
  · right
    obtain ⟨l1, p, l2, e1, e2, e3, e4⟩ := map_split _ left x y z g1
    have hb1 : Below w.heap.size w w1 := by rcases g2 with rfl | rfl; exact h5; exact h5.drew
    have hlt1 : r < w1.heap.size := by rcases g2 with rfl | rfl <;> exact lt_of_heap h1
    obtain ⟨s1, s2, s3⟩ := setBlock_heap w1 r oi' hlt1
    refine ⟨l1, l2, p, oi', w1, e1, g2, fun ty => by rw [show (Instr.next (.pointer (some ⟨r, 0, none⟩)) false ty) = (Instr.next (.pointer (some ⟨r, 0, none⟩)) false 0) from rfl, g3, ← e3], ⟨s1, h2, by rw [show entsU (l1 ++ l2) = x ++ z by rw [← e2, ← e4]; simp [entsU]]; exact g4, ?_, below_setG hb1 h6 _, h6⟩, ?_, fun u hu hu2 => by rw [g5 u hu hu2, ← e3]⟩
    · refine List.Perm.trans ?_ h4
      rw [e1]
      simp only [List.append_assoc, List.singleton_append]
      exact (List.perm_middle.symm).append_left done
    · exact h4.subset (by rw [e1]; simp)
theorem GW.entry {w wr : World} {r bu : Nat} {xs : List UV} {oi o : Obj} {done left : List UV} (h : GW w r bu xs oi o done left wr) : wr.heap[r]? = some oi ∧ wr.heap[bu]? = some o := ⟨h.1, (h.2.2.2.2.1.block _ (lt_of_heap h.2.1)).trans h.2.1⟩
def leftG (w : World) (b r : Nat) : Nat := match w.heap[b]?, w.heap[r]? with
  | some (.map es _), some (.mapIter _ _ seen _) => (leftOf es seen).size
  | _, _ => 0
theorem GW.left_eq {w wr : World} {r bu : Nat} {xs : List UV} {oi o : Obj} {done left : List UV} (h : GW w r bu xs oi o done left wr) : leftG wr bu r = left.length := by
  obtain ⟨e1, e2⟩ := h.entry
  obtain ⟨es, clock, since, seen, c0, rfl, rfl, _, _, _, _, _, _, h7⟩ := h.2.2.1
  have := congrArg List.length h7
  simp only [leftG, e1, e2]
  simpa [entsU] using this
theorem Units.len {w : World} {xs : List UV} {us : List GU} (h : Units w xs us) : xs.length = us.length := by
  have := congrArg List.length h.names
  simpa [namesU] using this
theorem Units.mem {w : World} {xs : List UV} {us : List GU} (h : Units w xs us) (hd : (namesU us).Nodup) {x : UV} (hx : x ∈ xs) : x.name ∈ namesU us ∧ UVIs w x (findU us x.name) := by
  have hn : x.name ∈ namesU us := by rw [← h.names]; exact List.mem_map.2 ⟨x, hx, rfl⟩
  refine ⟨hn, ?_⟩
  have key : ∃ u ∈ us, UVIs w x u := by
    clear hd hn
    induction h with
    | nil => cases hx
    | cons h1 _ ih =>
      rcases List.mem_cons.1 hx with rfl | hx
      · exact ⟨_, List.mem_cons_self .., h1⟩
      · obtain ⟨u, hu, h2⟩ := ih hx
        exact ⟨u, List.mem_cons_of_mem _ hu, h2⟩
  obtain ⟨u, hu, h2⟩ := key
  rw [h2.name, findU_mem hd hu]
  exact h2
/-- Append of one text, in a plain region: to a row of the call's own. -/
theorem src_one (w : World) (x : Value) (T : TypeId) (h1 : x.oneCell' = true) : Src (w.alloc (.cells #[x] T)) (.slice (some ⟨w.heap.size, 0, none⟩) 1 1) 1 [x] := by
  refine .inr ⟨_, _, rfl, fun j u hj => ?_, fun u hu => by rw [List.mem_singleton.1 hu]; exact h1⟩
  rw [Addr.add_mid, Nat.zero_add, World.cell?_alloc_new]
  simpa using hj
def selN (us : List GU) (n : Nm) (done : List UV) : List Nm := (done.map (·.name)).filter fun m => standU us n (findU us m)
theorem selN_snoc (us : List GU) (n : Nm) (done : List UV) (p : UV) : selN us n (done ++ [p]) = selN us n done ++ if standU us n (findU us p.name) then [p.name] else [] := by
  unfold selN
  rw [List.map_append, List.filter_append]
  cases h : standU us n (findU us p.name) <;> simp [h]
theorem selN_all {us : List GU} {n : Nm} {done : List UV} (hd : (namesU us).Nodup) (hp : (done.map (·.name)).Perm (namesU us)) : sortN (selN us n done) = aheadU us n := by
  unfold aheadU selN
  apply sortN_eq
  refine (hp.filter _).trans ?_
  unfold namesU
  rw [List.filter_map]
  refine List.Perm.of_eq (congrArg _ ?_)
  apply List.filter_congr
  intro u hu
  simp only [Function.comp]
  rw [findU_mem hd hu]
def AhRel (w : World) (bu : Nat) (xs : List UV) (us : List GU) (n : Nm) (r : Nat) (bx : Rw) (v : Value) (wr : World) : Prop :=
  ∃ oi o done left, GW w r bu xs oi o done left wr ∧ Own ⟨w, [(r, oi)]⟩ wr [rowSs v (selN us n done), bx]
set_option maxHeartbeats 4000000 in
theorem ahead_any {w : World} {g bu : Nat} {xs : List UV} {us : List GU} (h : UsAt w g bu xs us) (hd : (namesU us).Nodup) (hlen : us.length ≤ 1000) (n : Nm) :
    Calls Tryz.prog 58 #[.pointer (some ⟨g, 0, none⟩), .string (toB n)] w fun e w' => ∃ v, e = .returned v ∧ Own w w' [rowSs v (aheadU us n)] := by
  obtain ⟨i0, hi, hz0, hz1, hz2⟩ := infoS_ex
  obtain ⟨x, hx, hl0⟩ := h.lookup n
  have hl := hl0 w (Below.refl _ _) false
  simp only [Bool.false_eq_true, if_false] at hl
  have hc := h.cell
  have hone := Lib.hid hx.one
  have hcs : (Tryz.prog.info? 64).map (·.size) = some x.cells.length := info_uv
  have H := Lib.hid h
  have HX := Lib.hid hx
  have h8 := Lib.hid (show (8 : Nat) = x.cells.length from rfl)
  have H2 := Lib.hid (show x.cells[2]? = some x.v2 from rfl)
  have H4 := Lib.hid (show x.cells[4]? = some x.v4 from rfl)
  have HD := Lib.hid hd
  have HN := Lib.hid hlen
  clear hl0 h hx hd hlen
  unfold UV.val at hl
  generalize hnb : toB n = nb at hl ⊢
  have HNB := Lib.hid hnb
  clear hnb
  generalize hxc : x.cells = cs at *
  go_enter Tryz.func58, Tryz.ntmps58
  go_upto_region 3 with (refine wpList_store_new rfl 64 (.tmp 6) (.tmp 14) rfl (Own.start w) cs w.heap.size rfl rfl rfl h8.out hcs hone.out ?_)
  intro w1 HO1 _
  obtain ⟨oi, o, hrun, hW⟩ := GW.start H.out HO1.below
  have hc := (H.out.later HO1.below).cell
  have hr0 := HO1.size
  have HW := Lib.hid (show AhRel w bu xs us n w1.heap.size ⟨64, cs.length, .slice (some ⟨w.heap.size, 0, none⟩) 1 1, 1, cs⟩ (.slice none 0 0) (w1.alloc oi) from ⟨oi, o, [], xs, hW, (HO1.newB oi).nil 9 1⟩)
  clear hW
  have Hr0 := Lib.hid hr0
  clear hr0 HO1
  go_wp2_with fail
  generalize hrr : w1.heap.size = r at *
  have HRR := Lib.hid hrr
  clear hrr hrun
  generalize hbx : (⟨64, cs.length, .slice (some ⟨w.heap.size, 0, none⟩) 1 1, 1, cs⟩ : Rw) = bx at HW
  have HBX := Lib.hid hbx
  clear hbx
  go_loopw [5] (fun s wr => AhRel w bu xs us n r bx s wr) (fun _ wr => leftG wr bu r)
  case atStart => exact HW.out
  case round =>
    obtain ⟨oi2, o2, done, left, hW, hO⟩ := hrel
    have hle := hW.left_eq
    have hperm := hW.2.2.2.1
    have hdone : done.length ≤ 1000 := by have h1 := hperm.length_eq; have h2 := H.out.units.len; have h3 := HN.out; rw [List.length_append] at h1; omega
    have hll : (selN us n done).length ≤ 1000 := by
      have := List.length_filter_le (fun m => standU us n (findU us m)) (done.map (·.name))
      rw [List.length_map] at this
      exact Nat.le_trans this hdone
    rcases hW.next with ⟨rfl, hnx⟩ | ⟨l1, l2, p, oi', w2', rfl, hw1, hnx, hW', hp, hen⟩
    · have hO2 : Own ⟨w, []⟩ wr [rowSs u5 (selN us n done)] := (hO.swap.tail).forget (S' := []) (fun m hm => by cases hm)
      have hs := sortS_row hO2 (by omega)
      have hper : (done.map (·.name)).Perm (namesU us) := by
        rw [List.append_nil] at hperm
        rw [← H.out.units.names]
        exact hperm.map _
      rw [selN_all HD.out hper] at hs
      obtain ⟨fa, fc, hf, _, _⟩ := Own.sized (h := (show Own ⟨w, []⟩ wr (⟨9, 1, u5, (selN us n done).length, strs (selN us n done)⟩ :: []) from hO2))
      clear hW hle hperm hO hO2 hll hdone hper
      subst hf
      go_wp2_with (go_at_call 82; refine hs.mono ?_; rintro e w3 ⟨rfl, hO3⟩; have HO3 := Lib.hid hO3; clear hO3)
      go_ret
      exact ⟨_, rfl, HO3.out⟩
    · have hr : ∀ oi2, ((r, oi2) : Nat × Obj) ∈ [(r, oi2)] := fun _ => List.mem_cons_self ..
      have hO1 : Own ⟨w, [(r, oi2)]⟩ w2' [rowSs u5 (selN us n done), bx] := by rcases hw1 with rfl | rfl; exact hO; exact hO.drew
      have hO2 : Own ⟨w, [(r, oi')]⟩ (setBlock w2' r oi') [rowSs u5 (selN us n done), bx] := by
        have := hO1.setB (hr _) oi'
        simpa [upd] using this
      obtain ⟨e1, e2⟩ := hW'.entry
      have hent := hen _ e1 e2
      have hl2 := hW'.left_eq
      have hmeas : (l1 ++ l2).length < leftG wr bu r := by rw [hle]; simp
      have hsn := selN_snoc us n done p
      obtain ⟨hpn, hpv⟩ := H.out.units.mem HD.out hp
      generalize hw2 : setBlock w2' r oi' = w2 at *
      obtain ⟨fa, fc, hf, _, _⟩ := Own.sized (h := (show Own ⟨w, [(r, oi')]⟩ w2 (⟨9, 1, u5, (selN us n done).length, strs (selN us n done)⟩ :: [bx]) from hO2))
      have hf' : u5 = .slice fa (selN us n done).length fc := hf
      clear hf
      subst hf'
      have HWn := Lib.hid hW'
      have Hpv := Lib.hid hpv
      have HO2 := Lib.hid hO2
      have HM := Lib.hid hmeas
      have Hsn := Lib.hid hsn
      have honep := Lib.hid hpv.one
      have hcsp : (Tryz.prog.info? 64).map (·.size) = some p.cells.length := info_uv
      have h8p := Lib.hid (show (8 : Nat) = p.cells.length from rfl)
      have D3 := Lib.hid (show p.cells[3]? = some p.v3 from rfl)
      clear hO hO1 hO2 hW hW' hle hperm e1 e2 hen hl2 hsn hmeas hdone hw1 hw2 hpv
      have Hll := Lib.hid hll
      clear hll
      unfold UV.val at hent hnx
      generalize hls : selN us n done = ls at *
      have Hls := Lib.hid hls
      clear hls
      generalize hpnb : toB p.name = pn at hent hnx
      have Hpn := Lib.hid hpnb
      clear hpnb
      generalize hpc : p.cells = pcs at *
      go_upto_region 6 with (refine wpList_store_new rfl 64 (.tmp 8) (.tmp 24) rfl HO2.out pcs w2.heap.size rfl rfl rfl h8p.out hcsp honep.out ?_)
      intro w3 hO3 _
      have d3 : w3.cell? ⟨w2.heap.size, 3, none⟩ = some p.v3 := by
        rw [hO3.cell 3 (by rw [← h8p.out]; decide)]; exact D3.out
      have hbx3 : Own ⟨w, [(r, oi')]⟩ w3 (⟨64, cs.length, .slice (some ⟨w.heap.size, 0, none⟩) 1 1, 1, cs⟩ :: [rowSs (.slice fa ls.length fc) ls]) := by
        have := hO3.tail.swap
        rwa [← HBX.out] at this
      have c2 : w3.cell? ⟨w.heap.size, 2, none⟩ = some x.v2 := by
        rw [hbx3.cell 2 (by rw [← h8.out]; decide)]; exact H2.out
      have c4 : w3.cell? ⟨w.heap.size, 4, none⟩ = some x.v4 := by
        rw [hbx3.cell 4 (by rw [← h8.out]; decide)]; exact H4.out
      have hB3 : Below w.heap.size w w3 := hO3.below
      have K1 := Lib.hid (contains_any x.v2 _ p.name w3 (HX.out.later hB3).s2)
      have K2 := Lib.hid (contains_any x.v4 _ p.name w3 (HX.out.later hB3).s4)
      have K3 := Lib.hid (contains_any p.v3 _ n w3 (Hpv.out.later hB3).s3)
      rw [Hpn.out] at K1 K2
      rw [HNB.out] at K3
      have hW3 : GW w r bu xs oi' o2 (done ++ [p]) (l1 ++ l2) w3 := ⟨hO3.at (List.mem_cons_self ..), HWn.out.2.1, HWn.out.2.2.1, HWn.out.2.2.2.1, hB3, HWn.out.2.2.2.2.2⟩
      have HNO := Lib.hid (fun (hf : standU us n (findU us p.name) = false) => (show AhRel w bu xs us n r bx (.slice fa ls.length fc) w3 ∧ leftG w3 bu r < leftG wr bu r from ⟨⟨oi', o2, _, _, hW3, by
        have := Hsn.out
        rw [hf] at this
        rw [this]; simpa using hO3.tail⟩, by rw [hW3.left_eq]; exact HM.out⟩))
      have HYES := Lib.hid (fun (hf : standU us n (findU us p.name) = true) (v4 : Value) (w4 : World) (hO4 : Own ⟨w, [(r, oi')]⟩ w4 (⟨9, 1, v4, ls.length + 1, strs ls ++ [.string pn]⟩ :: [bx])) => (show AhRel w bu xs us n r bx v4 w4 ∧ leftG w4 bu r < leftG wr bu r from by
        have hW4 : GW w r bu xs oi' o2 (done ++ [p]) (l1 ++ l2) w4 := ⟨hO4.at (List.mem_cons_self ..), HWn.out.2.1, HWn.out.2.2.1, HWn.out.2.2.2.1, hO4.below, HWn.out.2.2.2.2.2⟩
        refine ⟨⟨oi', o2, _, _, hW4, ?_⟩, by rw [hW4.left_eq]; exact HM.out⟩
        have := Hsn.out
        rw [hf] at this
        rw [this]
        show Own _ w4 (⟨9, 1, v4, (ls ++ [p.name]).length, strs (ls ++ [p.name])⟩ :: [bx])
        rw [List.length_append, show strs (ls ++ [p.name]) = strs ls ++ [.string pn] from by rw [← Hpn.out]; simp [strs]]
        exact hO4))
      have HST := Lib.hid (show standU us n (findU us p.name) = (decide (p.name ∈ (findU us n).af) || decide (p.name ∈ (findU us n).re) || decide (n ∈ (findU us p.name).be)) from by
        unfold standU; rw [(findU_of HD.out hpn).2])
      have HO4 := Lib.hid (show Own ⟨w, [(r, oi')]⟩ (w3.alloc (.cells #[.string pn] 9)) (⟨9, 1, .slice fa ls.length fc, ls.length, strs ls⟩ :: [bx]) from hO3.tail.alloc _)
      have Hsrc := Lib.hid (src_one w3 (.string pn) 9 rfl)
      have Hb1 := Lib.hid (show ls.length + 1 ≤ maxLen from by have := Hll.out; unfold maxLen; omega)
      have Hb2 := Lib.hid (show (ls.length + 1) * 16 ≤ 140737488355328 from by have := Hll.out; omega)
      clear hO3 hbx3 hB3 hW3 hent hnx
      generalize decide (p.name ∈ (findU us n).af) = b1 at *
      generalize decide (p.name ∈ (findU us n).re) = b2 at *
      generalize decide (n ∈ (findU us p.name).be) = b3 at *
      generalize x.v2 = xv2 at *
      generalize x.v4 = xv4 at *
      generalize p.v3 = pv3 at *
      cases b1 with
      | true =>
        have HYES := Lib.hid (HYES.out (by rw [HST.out]; rfl))
        go_wp2_with (first
          | (at_builtin; refine wpList_append_src rfl (.tmp 41) (.tmp 43) 29 rfl (.slice fa ls.length fc) ls.length (strs ls) (.slice (some ⟨w3.heap.size, 0, none⟩) 1 1) 1 [.string pn] rfl rfl HO4.out i0 (.string ⟨#[]⟩) 16 Tryz.underlying29 hi hz0 hz1 hz2 rfl (by decide) Hsrc.out (by simp) Hb1.out Hb2.out ?_)
          | (go_at_call 95; refine K1.out.mono ?_; rintro e w9 ⟨rfl, rfl⟩; have G1 := Lib.hid True.intro))
        intro v4 w4 hO4
        have HR := Lib.hid (HYES.out v4 w4 hO4)
        obtain ⟨a4, c4, hv4, _, _⟩ := Own.sized (h := hO4)
        subst hv4
        clear hO4
        go_wp2_with fail
        go_roundw
        case rel => exact HR.out.1
        case measure => exact HR.out.2
      | false =>
        cases b2 with
        | true =>
        have HYES := Lib.hid (HYES.out (by rw [HST.out]; rfl))
        go_wp2_with (first
          | (at_builtin; refine wpList_append_src rfl (.tmp 41) (.tmp 43) 29 rfl (.slice fa ls.length fc) ls.length (strs ls) (.slice (some ⟨w3.heap.size, 0, none⟩) 1 1) 1 [.string pn] rfl rfl HO4.out i0 (.string ⟨#[]⟩) 16 Tryz.underlying29 hi hz0 hz1 hz2 rfl (by decide) Hsrc.out (by simp) Hb1.out Hb2.out ?_)
          | (go_at_call 95; have _g1 := G1; clear _g1; refine K2.out.mono ?_; rintro e w9 ⟨rfl, rfl⟩; have G2 := Lib.hid True.intro)
          | (go_at_call 95; refine K1.out.mono ?_; rintro e w9 ⟨rfl, rfl⟩; have G1 := Lib.hid True.intro))
        intro v4 w4 hO4
        have HR := Lib.hid (HYES.out v4 w4 hO4)
        obtain ⟨a4, c4, hv4, _, _⟩ := Own.sized (h := hO4)
        subst hv4
        clear hO4
        go_wp2_with fail
        go_roundw
        case rel => exact HR.out.1
        case measure => exact HR.out.2
        | false =>
        cases b3 with
        | true =>
        have HYES := Lib.hid (HYES.out (by rw [HST.out]; rfl))
        go_wp2_with (first
          | (at_builtin; refine wpList_append_src rfl (.tmp 41) (.tmp 43) 29 rfl (.slice fa ls.length fc) ls.length (strs ls) (.slice (some ⟨w3.heap.size, 0, none⟩) 1 1) 1 [.string pn] rfl rfl HO4.out i0 (.string ⟨#[]⟩) 16 Tryz.underlying29 hi hz0 hz1 hz2 rfl (by decide) Hsrc.out (by simp) Hb1.out Hb2.out ?_)
          | (go_at_call 95; have _g2 := G2; clear _g2; refine K3.out.mono ?_; rintro e w9 ⟨rfl, rfl⟩; have G3 := Lib.hid True.intro)
          | (go_at_call 95; have _g1 := G1; clear _g1; refine K2.out.mono ?_; rintro e w9 ⟨rfl, rfl⟩; have G2 := Lib.hid True.intro)
          | (go_at_call 95; refine K1.out.mono ?_; rintro e w9 ⟨rfl, rfl⟩; have G1 := Lib.hid True.intro))
        intro v4 w4 hO4
        have HR := Lib.hid (HYES.out v4 w4 hO4)
        obtain ⟨a4, c4, hv4, _, _⟩ := Own.sized (h := hO4)
        subst hv4
        clear hO4
        go_wp2_with fail
        go_roundw
        case rel => exact HR.out.1
        case measure => exact HR.out.2
        | false =>
        have HNO := Lib.hid (HNO.out (by rw [HST.out]; rfl))
        go_wp2_with (first
          | (go_at_call 95; have _g2 := G2; clear _g2; refine K3.out.mono ?_; rintro e w9 ⟨rfl, rfl⟩; have G3 := Lib.hid True.intro)
          | (go_at_call 95; have _g1 := G1; clear _g1; refine K2.out.mono ?_; rintro e w9 ⟨rfl, rfl⟩; have G2 := Lib.hid True.intro)
          | (go_at_call 95; refine K1.out.mono ?_; rintro e w9 ⟨rfl, rfl⟩; have G1 := Lib.hid True.intro))
        go_roundw
        case rel => exact HNO.out.1
        case measure => exact HNO.out.2
end Go.Proofs.YtnjabanjgckeoaaGreatDoor
end

/- waits, free: may a unit be placed? -/
section
namespace Go.Proofs.YtnjabanjgckeoaaGreatDoor
open Go.RowKit
open Go.ChangeMaps (setBlock)
set_option linter.unusedVariables false
set_option linter.unusedSimpArgs false
set_option maxRecDepth 100000

/-- Behind which each stands, in a graph's memory. -/
structure BeAt (w : World) (g bb : Nat) (ks : List Nm) (beh : Nm → List Nm) : Prop where
  cell : w.cell? ⟨g, 1, none⟩ = some (.map (some bb))
  map : ∃ o mb, w.heap[bb]? = some o ∧ MapO keyN o mb ∧ (∀ n ∈ ks, ∃ v, look mb n = some v ∧ Sts w v (beh n)) ∧ (∀ n, n ∉ ks → look mb n = none)
theorem BeAt.later {w w' : World} {g bb : Nat} {ks : List Nm} {beh : Nm → List Nm} (h : BeAt w g bb ks beh) (hb : Below w.heap.size w w') : BeAt w' g bb ks beh := by
  obtain ⟨o, mb, h1, h2, h3, h4⟩ := h.map
  have hg : g < w.heap.size := World.block_lt_of_cell? w ⟨g, 1, none⟩ h.cell
  refine ⟨(hb.cell (p := ⟨g, 1, none⟩) hg).trans h.cell, o, mb, (hb.block _ (lt_of_heap h1)).trans h1, h2, fun n hn => ?_, h4⟩
  obtain ⟨v, e, hs⟩ := h3 n hn
  exact ⟨v, e, hs.later hb⟩
theorem und_be : Tryz.prog.underlying 131 = some (.map 9 29) := by kernel_rfl
theorem zero_sl (w : World) : (zeroValue 29).run Tryz.prog w = .ok (.slice none 0 0) w := by
  rw [Tryz.zeroValue29]
theorem BeAt.lookup {w : World} {g bb : Nat} {ks : List Nm} {beh : Nm → List Nm} (h : BeAt w g bb ks beh) {n : Nm} : ∃ v, Sts w v (if n ∈ ks then beh n else []) ∧ ∀ w2, Below w.heap.size w w2 → (Instr.lookup 131 (.map (some bb)) (.string (toB n)) false).run Tryz.prog w2 = .ok v w2 := by
  obtain ⟨o, mb, h1, h2, h3, h4⟩ := h.map
  have hl := fun w2 (hb : Below w.heap.size w w2) => h2.lookup (P := Tryz.prog) (kindsN und_str) und_be (zero_sl w2) ((hb.block _ (lt_of_heap h1)).trans h1) n false
  by_cases hn : n ∈ ks
  · obtain ⟨v, e, hs⟩ := h3 n hn
    refine ⟨v, by rw [if_pos hn]; exact hs, fun w2 hb => ?_⟩
    rw [hl w2 hb, e]; rfl
  · refine ⟨_, by rw [if_neg hn]; exact sts_nil w, fun w2 hb => ?_⟩
    rw [hl w2 hb, h4 n hn]; rfl
theorem waits_any {w : World} {b5 : Nat} {v5 : Value} {left : List Nm} (hb : w.cell? ⟨b5, 0, none⟩ = some v5) (hs : Sts w v5 left) (x : Nm) :
    Calls Tryz.prog 96 #[.string (toB x), .pointer (some ⟨b5, 0, none⟩)] w fun e w' => e = .returned (.bool (decide (x ∈ left))) ∧ w = w' := by
  have hc := contains_any v5 left x w hs
  obtain ⟨a, n, c, rfl⟩ := hs.shape
  clear hs
  generalize decide (x ∈ left) = b at *
  go_enter Tryz.func96, Tryz.ntmps96
  go_wp2_with (go_at_call 95; refine hc.mono ?_; rintro e w' ⟨rfl, rfl⟩)
  go_ret
  exact ⟨rfl, rfl⟩
set_option maxHeartbeats 2000000 in
theorem free_any {w : World} {g bb b2 b5 b6 : Nat} {v5 : Value} {ks left : List Nm} {beh : Nm → List Nm} (h : BeAt w g bb ks beh) (h2 : w.cell? ⟨b2, 0, none⟩ = some (.pointer (some ⟨g, 0, none⟩)))
    (h6 : w.cell? ⟨b6, 0, none⟩ = some (.func (.func 96) #[] #[.pointer (some ⟨b5, 0, none⟩)])) (h5 : w.cell? ⟨b5, 0, none⟩ = some v5) (hs : Sts w v5 left) (n : Nm) (hn : n ∈ ks) :
    Calls Tryz.prog 97 #[.string (toB n), .pointer (some ⟨b2, 0, none⟩), .pointer (some ⟨b6, 0, none⟩)] w fun e w' => e = .returned (.bool (freeN beh left n)) ∧ Below w.heap.size w w' := by
  obtain ⟨v, hv, hl0⟩ := h.lookup (n := n)
  rw [if_pos hn] at hv
  have hd : Below w.heap.size w w.drew := (Below.refl _ w).drew
  have hl := hl0 w (Below.refl _ _)
  have hl' := hl0 w.drew hd
  have hc := h.cell
  have hb5 := World.block_lt_of_cell? w ⟨b5, 0, none⟩ h5
  have kc := containsF_lb 96 #[.pointer (some ⟨b5, 0, none⟩)] (fun x => decide (x ∈ left)) (enters_of Tryz.func96 (by kernel_rfl) rfl) v (beh n) w.drew (hv.later hd) (fun W y _ hb => (waits_any (w := W) (((hd.trans (hb.mono hd.size)).cell (p := ⟨b5, 0, none⟩) hb5).trans h5) (hs.later (hd.trans (hb.mono hd.size))) y).mono fun e w' ⟨e1, e2⟩ => ⟨e1, e2 ▸ Below.refl _ _⟩)
  obtain ⟨a, m, c, rfl⟩ := hv.shape
  have HE := Lib.hid (show freeN beh left n = !((beh n).any fun x => decide (x ∈ left)) from rfl)
  have HD := Lib.hid hd
  clear hl0 h hv hs h5 hb5 hd
  generalize (beh n).any (fun x => decide (x ∈ left)) = r at *
  generalize toB n = nb at *
  go_enter Tryz.func97, Tryz.ntmps97
  go_upto_region 1 with fail
  go_still_tail 7, (by kernel_rfl)
  go_wp2_with (go_at_call 94; refine kc.mono ?_; rintro e w' ⟨rfl, hb⟩)
  go_ret
  exact ⟨by rw [HE.out]; rfl, HD.out.trans (hb.mono HD.out.size)⟩
end Go.Proofs.YtnjabanjgckeoaaGreatDoor
end
