/- strings.SplitSeq between bytes 10: its iterator's contract. -/
import Derived.Test.YtmnohaefklglfaaDoorUn7
import Derived.Test.YtmnohaefklglfaaDoorUn1
import Derived.RangeFuncBound
import Derived.Shelf.Abstract
import Derived.Shelf.RegionOpen
import Derived.OwnWalkIn
import Derived.TacticsInMore
import Derived.LoopNIn
import Derived.LoopIn
namespace Go.Proofs.YtmnohaefklglfaaDoor
open Go.RowKit
set_option linter.unusedVariables false
set_option linter.unusedSimpArgs false
set_option maxRecDepth 100000
attribute [local go_sem] Oper.semAt_some

theorem ext_list (s : ByteArray) (a b : Nat) : s.extract a b = toB ((s.data.toList.drop a).take (b - a)) := by
  apply ByteArray.ext; rw [← Array.toList_inj, Lib.extract_data]
theorem ext_from (l : List UInt8) (k : Nat) : (toB l).extract k (toB l).size = toB (l.drop k) := by
  rw [ext_list, toB_size]
  congr 2
  exact List.take_of_length_le (by simp)
theorem ext_upto (l : List UInt8) (k : Nat) : (toB l).extract 0 k = toB (l.take k) := by rw [ext_list]; rfl
theorem lines_at (l : List UInt8) : (Lib.indexByte l 10 = -1 ∧ linesL l = [l]) ∨ ∃ k : Nat, Lib.indexByte l 10 = k ∧ k < l.length ∧ linesL l = l.take k :: linesL (l.drop (k + 1)) := by
  induction l with
  | nil => exact .inl ⟨rfl, rfl⟩
  | cons c l ih =>
    by_cases hc : c = 10
    · subst hc
      exact .inr ⟨0, by simp [Lib.indexByte], by simp, by simp [linesL]⟩
    · have hcb : (c == 10) = false := by simpa using hc
      rcases ih with ⟨h1, h2⟩ | ⟨k, h1, h2, h3⟩
      · left
        refine ⟨by simp [Lib.indexByte, hcb, h1], ?_⟩
        rw [linesL, if_neg hc, h2]; rfl
      · right
        have h4 : ¬ ((k : Int) == -1) = true := fun e => by have := beq_iff_eq.1 e; omega
        refine ⟨k + 1, ?_, by simp; omega, ?_⟩
        · simp only [Lib.indexByte, hcb, h1, if_neg h4]
          simp
        · rw [linesL, if_neg hc, h3]; rfl
def lenAt (b : Nat) (w : World) : Nat := match w.cell? ⟨b, 0, none⟩ with
  | some (.string s) => s.size
  | _ => 0
theorem cell_same {w w' : World} {k : Nat} (h : w'.heap[k]? = w.heap[k]?) (j : Nat) : w'.cell? ⟨k, j, none⟩ = w.cell? ⟨k, j, none⟩ ∧ w'.frozen? ⟨k, j, none⟩ = w.frozen? ⟨k, j, none⟩ := by
  simp [World.cell?, World.frozen?, h]
/-- The iterator's three boxes: what is left, what lies between, what is kept of it. -/
structure SeqAt (bs be bv : Nat) (rest : List UInt8) (w : World) : Prop where
  c0 : w.heap[bs]? = some (.cells #[.string (toB rest)] 9)
  c1 : w.heap[be]? = some (.cells #[.string ⟨#[10]⟩] 9)
  c2 : w.heap[bv]? = some (.cells #[.int .i64 0] 3)
theorem SeqAt.same {bs be bv : Nat} {rest : List UInt8} {w w' : World} (h : SeqAt bs be bv rest w) (hs : ∀ k ∈ [bs, be, bv], w'.heap[k]? = w.heap[k]?) : SeqAt bs be bv rest w' :=
  ⟨(hs bs (by simp)).trans h.c0, (hs be (by simp)).trans h.c1, (hs bv (by simp)).trans h.c2⟩
theorem SeqAt.next {bs be bv : Nat} {rest rest' : List UInt8} {w : World} (h : SeqAt bs be bv rest w) (h1 : be ≠ bs) (h2 : bv ≠ bs) : SeqAt bs be bv rest' (w.setCell ⟨bs, 0, none⟩ (.string (toB rest'))) := by
  have e := set_at h.c0 0 (.string (toB rest'))
  have hlt := lt_of_heap h.c0
  obtain ⟨s1, s2, _⟩ := setBlock_heap w bs (.cells (#[.string (toB rest)].setIfInBounds 0 (.string (toB rest'))) 9) hlt
  rw [e]
  exact ⟨s1, (s2 be h1).trans h.c1, (s2 bv h2).trans h.c2⟩
set_option maxHeartbeats 4000000 in
theorem lines_iter (n : Nat) (hn : 1 ≤ n) (s : List UInt8) (hs : s.length ≤ 1000000) (bs be bv : Nat) (hap : be ≠ bs ∧ bv ≠ bs) (w : World) (h0 : SeqAt bs be bv s w) :
    Splits Fence.wide n Tryd.prog 34 #[.pointer (some ⟨be, 0, none⟩), .pointer (some ⟨bs, 0, none⟩), .pointer (some ⟨bv, 0, none⟩)] (fun l : List UInt8 => #[.string (toB l)]) [bs, be, bv] bs (fun xs => xs <+: linesL s) (fun xs => xs = linesL s) (fun pre => pre <+: linesL s) (linesL s).length w := by
  intro l J Jx W hW tJ tJx hY hJ0
  have hW0 : SeqAt bs be bv s W := ⟨(hW.block bs (lt_of_heap h0.c0)).trans h0.c0, (hW.block be (lt_of_heap h0.c1)).trans h0.c1, (hW.block bv (lt_of_heap h0.c2)).trans h0.c2⟩
  have a1 : W.cell? ⟨be, 0, none⟩ = some (.string ⟨#[10]⟩) := cell_at hW0.c1 0
  have HW := Lib.hid hW0
  have HY := Lib.hid hY
  have HT := Lib.hid tJ
  clear hY tJ tJx h0 hW hW0
  refine callsIn_of_wp Tryd.func34 rfl trivial ?_ rfl
  simp only [Tryd.ntmps34, List.size_toArray, List.length_cons, List.length_nil, Nat.reduceAdd, Nat.reduceSub, Array.replicate_succ, Array.replicate_zero, List.push_toArray, List.append_toArray, List.nil_append, List.cons_append]
  gi_wp2
  gi_loopw [7] (fun _ wr => ∃ (pre : List (List UInt8)) (rest : List UInt8), linesL s = pre ++ linesL rest ∧ rest.length ≤ s.length ∧ SeqAt bs be bv rest wr ∧ J pre wr) (fun _ wr => lenAt bs wr)
  case atStart => exact ⟨[], s, rfl, Nat.le_refl _, HW.out, hJ0⟩
  case round =>
    obtain ⟨pre, rest, hl, hle, hC, hJ⟩ := hrel
    have c0 := cell_at hC.c0 0
    have c1 := cell_at hC.c1 0
    have c2 := cell_at hC.c2 0
    have c0' : wr.cell? ⟨bs, 0, none⟩ = some (.string (toB rest)) := c0
    have c1' : wr.cell? ⟨be, 0, none⟩ = some (.string ⟨#[10]⟩) := c1
    have c2' : wr.cell? ⟨bv, 0, none⟩ = some (.int .i64 0) := c2
    have hix := callsIn_wide (n := n - 1) |>.2 (Tryd.strings_Index_one (toB rest) 10 wr)
    have hlen : lenAt bs wr = rest.length := by unfold lenAt; rw [c0']; exact toB_size rest
    clear c0 c1 c2
    rcases lines_at rest with ⟨hi, hln⟩ | ⟨k, hi, hk, hln⟩
    · have hi' : Lib.indexByte (toB rest).data.toList 10 = -1 := hi
      rw [hi'] at hix
      rw [hln] at hl
      obtain ⟨fn, tmps, assign, body, hy, hR⟩ := HY.out pre rest wr hJ (by rw [hl, List.length_append]; simp) (by rw [hl]; exact List.prefix_refl _)
      have HL := Lib.hid hl
      clear hl hle hJ hC hi hi' hln
      generalize toB rest = rs at *
      gi_wp2_with (refine ⟨trivial, ?_⟩; gi_at_call 36; refine hix.mono ?_; rintro e w2 ⟨rfl, rfl⟩)
      refine hR.mono ?_
      rintro e W3 (⟨rfl, hJ3, hk3⟩ | ⟨rfl, hJx3⟩)
      · gi_wp2
        go_end0
        exact ⟨⟨_, rfl⟩, .inl ⟨_, HL.out.symm, hJ3⟩⟩
      · gi_wp2
        go_end0
        exact ⟨⟨_, rfl⟩, .inr ⟨_, by rw [HL.out]; exact List.prefix_refl _, hJx3⟩⟩
    · have hi' : Lib.indexByte (toB rest).data.toList 10 = (k : Int) := hi
      rw [hi'] at hix
      rw [hln] at hl
      obtain ⟨fn, tmps, assign, body, hy, hR⟩ := HY.out pre (rest.take k) wr hJ (by rw [hl, List.length_append]; simp) (by rw [hl]; exact ⟨linesL (rest.drop (k + 1)), by simp⟩)
      have e1 := ext_upto rest k
      have e2 := ext_from rest (k + 1)
      have hsz := toB_size rest
      have HL := Lib.hid hl
      have HC := Lib.hid hC
      have hk1 : (k : Int) + 0 = k := Int.add_zero _
      have hkn : ¬ ((k : Int) < 0) := by omega
      have hk3 : (k : Int) + 1 ≤ (toB rest).size := by rw [hsz]; omega
      have hk4 : k + 1 ≤ (toB rest).size := by rw [hsz]; omega
      have hap0 := hap
      clear hl hJ hC hi hi' hln hsz
      obtain ⟨t1, ht1⟩ : ∃ t, toB (rest.take k) = t := ⟨_, rfl⟩
      obtain ⟨t2, ht2⟩ : ∃ t, toB (rest.drop (k + 1)) = t := ⟨_, rfl⟩
      rw [ht1] at e1 hy
      rw [ht2] at e2
      obtain ⟨rs, hrs⟩ : ∃ t, toB rest = t := ⟨_, rfl⟩
      have HRS := Lib.hid hrs
      have HT2 := Lib.hid ht2
      rw [hrs] at e1 e2 c0' hix hk3 hk4
      clear ht1 ht2 hrs
      gi_wp2_with (refine ⟨trivial, ?_⟩; gi_at_call 36; refine hix.mono ?_; rintro e w2 ⟨rfl, rfl⟩)
      refine hR.mono ?_
      rintro e W3 (⟨rfl, hJ3, hk3⟩ | ⟨rfl, hJx3⟩)
      · have hC3 := HC.out.same hk3
        have d0 : W3.cell? ⟨bs, 0, none⟩ = some (.string rs) := by rw [← HRS.out]; exact cell_at hC3.c0 0
        have d1 : W3.cell? ⟨be, 0, none⟩ = some (.string ⟨#[10]⟩) := cell_at hC3.c1 0
        have f0 : W3.frozen? ⟨bs, 0, none⟩ = false := free_at hC3.c0 0
        have hN : SeqAt bs be bv (rest.drop (k + 1)) (W3.setCell ⟨bs, 0, none⟩ (.string t2)) := by rw [← HT2.out]; exact hC3.next hap0.1 hap0.2
        have hNl : lenAt bs (W3.setCell ⟨bs, 0, none⟩ (.string t2)) = (rest.drop (k + 1)).length := by
          unfold lenAt
          rw [cell_at hN.c0 0]
          exact toB_size _
        have HN := Lib.hid hN
        have HNl := Lib.hid hNl
        have HJ3 := Lib.hid (HT.out _ _ (.string t2) hJ3)
        clear hC3 hN hNl hJ3 hk3 hix hR hy
        gi_wp2
        go_roundw
        case rel => exact ⟨pre ++ [rest.take k], rest.drop (k + 1), by rw [HL.out, List.append_assoc]; rfl, by rw [List.length_drop]; omega, HN.out, HJ3.out⟩
        case measure => rw [HNl.out, hlen, List.length_drop]; omega
      · gi_wp2
        refine bodyPost_ret (results_none rfl _ _ _) rfl ?_
        exact ⟨⟨_, rfl⟩, .inr ⟨_, by rw [HL.out]; exact ⟨linesL (rest.drop (k + 1)), by simp⟩, hJx3⟩⟩
end Go.Proofs.YtmnohaefklglfaaDoor
