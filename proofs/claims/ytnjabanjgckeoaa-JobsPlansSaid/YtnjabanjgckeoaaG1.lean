/- Go's library over rows of texts: Contains, Clone, Sort, Reverse, Delete; IndexFunc and ContainsFunc with whatever function that turns nothing. -/
import Derived.Test.YtnjabanjgckeoaaG0
import Derived.Test.YtnjabanjgckeoaaShelf
import Derived.Test.YtnjabanjgckeoaaIter
import Derived.Test.YtnjabanjgckeoaaChecked
import Derived.Sort.OwnSorted
import Derived.Lib.OwnBridge
import Derived.Lib.SliceRun
namespace Go.Proofs.Ytnjabanjgckeoaa
open Go.RowKit
open Go.ChangeMaps (setBlock)
set_option linter.unusedVariables false
set_option linter.unusedSimpArgs false
set_option maxRecDepth 100000

theorem beq_nm (a b : Nm) : ((toB a).toList == (toB b).toList) = decide (a = b) := by
  rw [Lib.toList_data, Lib.toList_data]
  show (a == b) = _
  by_cases h : a = b
  · rw [h]; simp
  · rw [decide_eq_false h, beq_eq_false_iff_ne]; exact h
theorem contains_any (v : Value) (ls : List Nm) (x : Nm) (w : World) (h : Sts w v ls) : Calls Try.prog 25 #[v, .string (toB x)] w fun e w' => e = .returned (.bool (decide (x ∈ ls))) ∧ w = w' := by
  obtain ⟨a, c, rfl, h2, h3, h4⟩ := h
  by_cases hn : 0 < ls.length
  · obtain ⟨b, o, rfl, hb, hc⟩ := h4 hn
    refine (Try.slices_Contains_string b o ls.length c (ls.map toB) (toB x) w (by simp) (by unfold maxLen at h3; omega) (fun j hj => ?_)).mono ?_
    · have hj' : j < ls.length := by simpa using hj
      rw [hc j hj']
      simp [List.getD, hj']
    · rintro e w' ⟨rfl, rfl⟩
      refine ⟨?_, rfl⟩
      have e1 : Lib.containsS ((ls.map toB).take ls.length) (toB x) = decide (x ∈ ls) := by
        rw [show (ls.map toB).take ls.length = ls.map toB from by rw [← List.map_take, List.take_length]]
        by_cases hx : x ∈ ls
        · rw [decide_eq_true hx]
          exact (Lib.containsS_iff _ _).2 (List.mem_map.2 ⟨x, hx, rfl⟩)
        · rw [decide_eq_false hx]
          rw [← Bool.not_eq_true]
          intro h9
          obtain ⟨y, hy, e⟩ := List.mem_map.1 ((Lib.containsS_iff _ _).1 h9)
          exact hx (toB_inj e ▸ hy)
      rw [e1]
  · have hz : ls = [] := List.eq_nil_of_length_eq_zero (by omega)
    subst hz
    refine (Try.slices_Contains_string_empty a c (toB x) w).mono ?_
    rintro e w' ⟨rfl, rfl⟩
    exact ⟨by simp, rfl⟩

/-! ### Rows of texts that are the call's own -/
section
variable {W0 : Base} {w : World} {L : List Rw} {v : Value} {ls : List Nm}
theorem row_form (h : Own W0 w (rowSs v ls :: L)) : (v = .slice none 0 0 ∧ ls = []) ∨ ∃ g cap cur, v = .slice (some ⟨g, 0, none⟩) ls.length cap ∧ W0.world.heap.size ≤ g ∧ w.heap[g]? = some (.cells cur 9 (0, 0)) ∧ ls.length ≤ cap ∧ cap ≤ maxLen ∧ cur.size = cap * 1 ∧ cur.toList.take ls.length = ls.map encStr := by
  have hown : w.ownsRow W0.world.heap.size 9 1 v ls.length (strs ls) := h.head
  rcases hown.2 with ⟨hv, hn⟩ | ⟨g, cap, cur, hv, hg, hb, hn, hcap, hsz, htk⟩
  · exact .inl ⟨hv, List.eq_nil_of_length_eq_zero hn⟩
  · exact .inr ⟨g, cap, cur, hv, hg, hb, hn, hcap, hsz, by rw [Nat.mul_one] at htk; exact htk⟩
theorem row_put {g cap n : Nat} {os : Array Obj} {cur : Array Value} {ts : List Nm} (h : Own W0 w (rowSs (.slice (some ⟨g, 0, none⟩) ls.length cap) ls :: L)) (hl : ts.length = ls.length) (hg : W0.world.heap.size ≤ g) (hb : w.heap[g]? = some (.cells cur 9 (0, 0))) (hn : ls.length ≤ cap) (hcap : cap ≤ maxLen) (hsz : cur.size = cap * 1) :
    Own W0 (Sort.grow (Sort.putRow encStr (Sort.ahead w n) g 0 ts.toArray) os) (rowSs (.slice (some ⟨g, 0, none⟩) ts.length cap) ts :: L) := by
  have h' : Own W0 w (⟨9, 1, .slice (some ⟨g, 0, none⟩) ls.length cap, ls.length, strs ls⟩ :: L) := h
  have hrow := ownsRow_sorted (n := n) (os := os) hl hg hb hn hcap hsz
  rw [← hl] at hrow
  exact Own.grown (h := h') (v' := .slice (some ⟨g, 0, none⟩) ts.length cap) (n' := ts.length) (ys := ts.map encStr) hrow (grownBy_sorted _) (.inl rfl)
/-- Fewer of a row. -/
theorem row_take {g n cap : Nat} (h : Own W0 w (rowSs (.slice (some ⟨g, 0, none⟩) ls.length cap) ls :: L)) (k : Nat) (hk : k ≤ ls.length) : Own W0 w (rowSs (.slice (some ⟨g, 0, none⟩) (ls.take k).length cap) (ls.take k) :: L) := by
  have hlen : (ls.take k).length = k := by rw [List.length_take]; omega
  have hown : w.ownsRow W0.world.heap.size 9 1 (.slice (some ⟨g, 0, none⟩) ls.length cap) ls.length (strs ls) := h.head
  have hap := List.pairwise_cons.1 h.apart
  refine ⟨h.below, fun p hp => ?_, List.pairwise_cons.2 ⟨fun q hq => hap.1 q hq, hap.2⟩, h.maps, fun m hm p hp => ?_⟩
  · rcases List.mem_cons.1 hp with rfl | hp
    · refine ⟨by simp [strs], ?_⟩
      rcases hown.2 with ⟨hv, hn⟩ | ⟨g', cap', cur, hv, hg, hb, hn, hcap, hsz, htk⟩
      · cases hv
      · refine .inr ⟨g', cap', cur, ?_, hg, hb, by show (ls.take k).length ≤ _; omega, hcap, hsz, ?_⟩
        · injection hv with e1 e2 e3
          show Value.slice _ _ _ = Value.slice _ _ _
          rw [e1, e3]
        · show List.take ((ls.take k).length * 1) cur.toList = strs (ls.take k)
          rw [Nat.mul_one, hlen]
          rw [Nat.mul_one] at htk
          have e9 : cur.toList.take k = (cur.toList.take ls.length).take k := by rw [List.take_take]; congr 1; omega
          rw [e9, htk]
          simp [strs]
    · exact h.rows p (List.mem_cons_of_mem _ hp)
  · rcases List.mem_cons.1 hp with rfl | hp
    · exact h.offmaps m hm (rowSs (.slice (some ⟨g, 0, none⟩) ls.length cap) ls) (List.mem_cons_self ..)
    · exact h.offmaps m hm p (List.mem_cons_of_mem _ hp)
theorem sortS_row (h : Own W0 w (rowSs v ls :: L)) (hl : ls.length ≤ 1000000) :
    Calls Try.prog 36 #[v] w fun e w' => e = .returned (.tuple #[]) ∧ Own W0 w' (rowSs v (sortN ls) :: L) := by
  rcases row_form h with ⟨rfl, rfl⟩ | ⟨g, cap, cur, rfl, hg, hb, hn, hcap, hsz, htk⟩
  · refine (AnyM.slices_Sort_string_none Try.sort36 none 0 w).mono ?_
    rintro e w' ⟨rfl, rfl⟩
    exact ⟨rfl, h⟩
  · refine (AnyM.slices_Sort_string Try.sort36 g 0 cap ls w (holds_of_block hb htk) (lt_of_heap hb) (by omega)).mono ?_
    rintro e w' ⟨rfl, n, os, rfl⟩
    refine ⟨rfl, ?_⟩
    rw [merge_sortN]
    have := row_put (n := n) (os := os) h (sortN_length ls) hg hb hn hcap hsz
    rw [sortN_length] at this
    show Own W0 _ (⟨9, 1, _, (sortN ls).length, strs (sortN ls)⟩ :: L)
    rw [sortN_length]
    have h9 : Own W0 _ (⟨9, 1, .slice (some ⟨g, 0, none⟩) ls.length cap, (sortN ls).length, strs (sortN ls)⟩ :: L) := this
    rwa [sortN_length] at h9
theorem revS_row (h : Own W0 w (rowSs v ls :: L)) (hl : ls.length ≤ 1000000) :
    Calls Try.prog 29 #[v] w fun e w' => e = .returned (.tuple #[]) ∧ Own W0 w' (rowSs v ls.reverse :: L) := by
  rcases row_form h with ⟨rfl, rfl⟩ | ⟨g, cap, cur, rfl, hg, hb, hn, hcap, hsz, htk⟩
  · refine (Try.slices_Reverse_string_empty none 0 w).mono ?_
    rintro e w' ⟨rfl, rfl⟩
    exact ⟨rfl, h⟩
  · refine (Try.slices_Reverse_string g 0 cap ls w (holds_of_block hb htk) (by omega)).mono ?_
    rintro e w' ⟨rfl, n, rfl⟩
    refine ⟨rfl, ?_⟩
    have := row_put (n := n) (os := #[]) h (show ls.reverse.length = ls.length from List.length_reverse) hg hb hn hcap hsz
    rw [Sort.grow_empty] at this
    have h9 : Own W0 _ (⟨9, 1, .slice (some ⟨g, 0, none⟩) ls.reverse.length cap, ls.reverse.length, strs ls.reverse⟩ :: L) := this
    show Own W0 _ (⟨9, 1, .slice (some ⟨g, 0, none⟩) ls.length cap, ls.reverse.length, strs ls.reverse⟩ :: L)
    rwa [List.length_reverse] at h9 ⊢
theorem delS_row (h : Own W0 w (rowSs v ls :: L)) (k : Nat) (hk : k < ls.length) (hl : ls.length ≤ 1000000) :
    Calls Try.prog 44 #[v, .int .i64 (k : Int), .int .i64 ((k : Int) + 1)] w fun e w' => ∃ v', e = .returned v' ∧ Own W0 w' (rowSs v' (ls.eraseIdx k) :: L) := by
  rcases row_form h with ⟨rfl, rfl⟩ | ⟨g, cap, cur, rfl, hg, hb, hn, hcap, hsz, htk⟩
  · exact absurd hk (Nat.not_lt_zero _)
  · have hc := Try.slices_Delete_string g 0 cap k (k + 1) ls w (holds_of_block hb htk) hn (by unfold maxLen at hcap; omega) (Nat.le_succ k) hk
    rw [show ((k + 1 : Nat) : Int) = (k : Int) + 1 from by omega] at hc
    refine hc.mono ?_
    rintro e w' ⟨rfl, n, rfl⟩
    rw [show k + 1 - k = 1 from by omega]
    refine ⟨_, rfl, ?_⟩
    have e1 : ls.take k ++ ls.drop (k + 1) = ls.eraseIdx k := (List.eraseIdx_eq_take_drop_succ ls k).symm
    rw [e1]
    have hel : (ls.eraseIdx k).length = ls.length - 1 := by rw [List.length_eraseIdx, if_pos hk]
    have hl2 : (ls.eraseIdx k ++ List.replicate 1 []).length = ls.length := by rw [List.length_append, hel]; simp; omega
    have h1 := row_put (n := n) (os := #[]) h hl2 hg hb hn hcap hsz
    rw [Sort.grow_empty] at h1
    have h2 := row_take (n := 0) h1 (ls.length - 1) (by omega)
    have e2 : (ls.eraseIdx k ++ List.replicate 1 ([] : Nm)).take (ls.length - 1) = ls.eraseIdx k := by rw [← hel, List.take_left']; rfl
    rw [e2] at h2
    rw [← hel]
    exact h2
end
theorem infoS : (Try.prog.info? 9).map (fun i => (i.zero, i.size, i.bytes)) = some (some (.string ⟨#[]⟩), 1, 16) := by kernel_rfl
theorem infoS_ex : ∃ i, Try.prog.info? 9 = some i ∧ i.zero = some (.string ⟨#[]⟩) ∧ i.size = 1 ∧ i.bytes = 16 := by
  have := infoS
  obtain ⟨i, h1, h2⟩ := Option.map_eq_some_iff.1 this
  simp only [Prod.mk.injEq] at h2
  exact ⟨i, h1, h2.1, h2.2.1, h2.2.2⟩
theorem Sts.src {w : World} {a : Option Addr} {c n : Nat} {ls : List Nm} (h : Sts w (.slice a n c) ls) (ha : a ≠ none) : n = ls.length ∧ ∃ ad, a = some ad ∧ Src w (.slice (some ad) n c) ls.length (strs ls) := by
  obtain ⟨a', c', h1, h2, h3, h4⟩ := h
  injection h1 with e1 e2 e3
  subst e1 e2 e3
  refine ⟨rfl, ?_⟩
  cases a with
  | none => exact absurd rfl ha
  | some ad =>
    refine ⟨ad, rfl, .inr ⟨ad, c, rfl, fun j u hj => ?_, fun u hu => ?_⟩⟩
    · have hjl : j < ls.length := by
        have := (List.getElem?_eq_some_iff.1 hj).1
        simpa [strs] using this
      obtain ⟨b, o, e, _, hc⟩ := h4 (by omega)
      injection e with e
      subst e
      rw [Addr.add_mid, hc j hjl]
      rw [strs_at ls j hjl] at hj
      exact hj
    · obtain ⟨y, _, rfl⟩ := List.mem_map.1 hu
      rfl
set_option maxHeartbeats 800000 in
theorem cloneS_sts (v : Value) (ls : List Nm) (w : World) (h : Sts w v ls) (hl : ls.length ≤ 1000000) :
    Calls Try.prog 35 #[v] w fun e w' => ∃ v', e = .returned v' ∧ Own w w' [rowSs v' ls] := by
  obtain ⟨i0, hi, hz0, hz1, hz2⟩ := infoS_ex
  obtain ⟨a, c, rfl, h2, h3, h4⟩ := id h
  cases a with
  | none =>
    have hn' : ls = [] := by
      rcases Nat.eq_zero_or_pos ls.length with h9 | h9
      · exact List.eq_nil_of_length_eq_zero h9
      · obtain ⟨b, o, e, _⟩ := h4 h9; cases e
    subst hn'
    have hnil : Sem.run Try.prog (binOp BinOp.eql 23 (.slice none 0 c) (.slice none 0 0)) w = .ok (.bool true) w := Lib.run_eql_slice_nil (P := Try.prog) w 23 9 none 0 c 0 0 Try.underlying23
    clear h h4 h2 h3
    go_enter Try.func35, Try.ntmps35
    go_wp2_with fail
    go_ret
    exact ⟨_, rfl, (Own.start w).nil _ _⟩
  | some ad =>
    obtain ⟨_, ad', e9, hs⟩ := Sts.src h (by simp)
    injection e9 with e9
    subst e9
    have hnil : Sem.run Try.prog (binOp BinOp.eql 23 (.slice (some ad) ls.length c) (.slice none 0 0)) w = .ok (.bool false) w := Lib.run_eql_slice_nil (P := Try.prog) w 23 9 (some ad) ls.length c 0 0 Try.underlying23
    have HO := Lib.hid ((Own.start w).made 9 1 #[] 0 rfl (Nat.zero_le _))
    have Hs := Lib.hid (hs.later (Below.alloc (Below.refl _ w) (Nat.le_refl _) (.cells #[] 9)))
    have Hl := Lib.hid (strs_length ls)
    have hl2 : 0 + ls.length ≤ maxLen := by unfold maxLen; omega
    have hl3 : (0 + ls.length) * 16 ≤ 140737488355328 := by omega
    clear hs h h4 h2 h3
    go_enter Try.func35, Try.ntmps35
    go_wp2_with (at_builtin; refine wpList_append_src rfl (.tmp 5) (.tmp 6) 23 rfl (.slice (some ⟨w.heap.size, 0, none⟩) 0 0) 0 [] (.slice (some ad) ls.length c) ls.length (strs ls) rfl rfl HO.out i0 (.string ⟨#[]⟩) 16 Try.underlying23 hi hz0 hz1 hz2 rfl (by decide) Hs.out (by rw [Hl.out, Nat.mul_one]) hl2 hl3 ?_)
    intro v' w' hO'
    have HO' := Lib.hid hO'
    clear hO'
    go_wp2_with fail
    go_ret
    have h9 : Own w w' [rowSs v' ls] := by have := HO'.out; simpa [rowSs] using this
    exact ⟨_, rfl, h9⟩
end Go.Proofs.Ytnjabanjgckeoaa
