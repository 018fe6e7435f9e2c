/- A reader's calls in one form each, as functions of what is left to read. -/
import Derived.Test.YtjhaihckbmkiaaaDoorKRec2
namespace Go.Proofs.YtjhaihckbmkiaaaDoor
open Go.RowKit
set_option linter.unusedVariables false
set_option linter.unusedSimpArgs false

instance (zs : List Int) (most : Int) : Decidable (isSized zs most) := by unfold isSized; infer_instance
/-- A number, bytes: what is taken, what is left, whether it is spoilt. -/
def numP (most : Int) (zs : List Int) (bad : Bool) : Int × List Int × Bool := if 4 ≤ zs.length ∧ num4 zs ≤ most then (num4 zs, zs.drop 4, bad) else (0, [], true)
def bodP (most : Int) (zs : List Int) (bad : Bool) : List Int × List Int × Bool := if isSized zs most then (bodyOf zs, restOf zs, bad) else ([], [], true)
/-- A reader at r, of which this is left. -/
def Rd (W0 : Base) (w : World) (L : List Rw) (r : Nat) (zs : List Int) (bad : Bool) : Prop := ∃ v, Own W0 w (rowR r v bad :: L) ∧ Pc L v zs
/-- Rows of other things serve no bytes. -/
theorem Pc.keep {L L' : List Rw} {v : Value} {zs : List Int} (h : Pc L v zs) (hs : ∀ r ∈ L, r.e = 5 → r ∈ L') : Pc L' v zs := by
  obtain ⟨a, c, hv, h1, h2, hz, h3⟩ := h
  refine ⟨a, c, hv, h1, h2, hz, ?_⟩
  rcases h3 with h3 | ⟨g, o, ha, h3⟩
  · exact .inl h3
  · exact .inr ⟨g, o, ha, fun hne => by obtain ⟨cap, ys, hm, h4⟩ := h3 hne; exact ⟨cap, ys, hs _ hm rfl, h4⟩⟩
theorem Rd.byts {W0 : Base} {w : World} {L : List Rw} {r : Nat} {zs : List Int} {bad : Bool} (h : Rd W0 w L r zs bad) : Byts zs := by
  obtain ⟨v, _, h2⟩ := h
  exact h2.byts
theorem Rd.later {W0 : Base} {w w' : World} {L : List Rw} {r : Nat} {zs : List Int} {bad : Bool} (h : Rd W0 w L r zs bad) (hb : Below w.heap.size w w') : Rd W0 w' L r zs bad := by
  obtain ⟨v, h1, h2⟩ := h
  exact ⟨v, h1.later hb, h2⟩
theorem Rd.own {W0 : Base} {w : World} {L : List Rw} {r : Nat} {zs : List Int} {bad : Bool} (h : Rd W0 w L r zs bad) : Own W0 w L := by
  obtain ⟨v, h1, _⟩ := h
  exact h1.tail
theorem Rd.more {W0 : Base} {w : World} {L : List Rw} {r : Nat} {zs : List Int} {bad : Bool} (h : Rd W0 w L r zs bad) : Calls Tryd.prog 14 #[.pointer (some ⟨r, 0, none⟩)] w fun e w' => e = .returned (.bool (decide (0 < zs.length))) ∧ w = w' := by
  obtain ⟨v, h1, h2⟩ := h
  exact more_any W0 w r v bad L zs h1 h2
theorem Rd.num {W0 : Base} {w : World} {L : List Rw} {r : Nat} {zs : List Int} {bad : Bool} (h : Rd W0 w L r zs bad) (most : Int) :
    Calls Tryd.prog 12 #[.pointer (some ⟨r, 0, none⟩), .int .i64 most] w fun e w' => e = .returned (.int .i64 (numP most zs bad).1) ∧ Rd W0 w' L r (numP most zs bad).2.1 (numP most zs bad).2.2 := by
  obtain ⟨v, h1, h2⟩ := h
  unfold numP
  by_cases hs : 4 ≤ zs.length ∧ num4 zs ≤ most
  · rw [if_pos hs]
    exact (rnum_any W0 w r v bad L zs most h1 h2 hs).mono fun e w' ⟨v', a, b, c⟩ => ⟨a, v', b, c⟩
  · rw [if_neg hs]
    exact (rnum_no W0 w r v bad L zs most h1 h2 hs).mono fun e w' ⟨a, b⟩ => ⟨a, _, b, Pc.nil L⟩
set_option maxHeartbeats 1600000 in
theorem rtext_no (W0 : Base) (w : World) (r : Nat) (v : Value) (bad : Bool) (L : List Rw) (zs : List Int) (most : Int) (h : Own W0 w (rowR r v bad :: L)) (hp : Pc L v zs) (hs : ¬ isSized zs most) :
    Calls Tryd.prog 15 #[.pointer (some ⟨r, 0, none⟩), .int .i64 most] w fun e w' => e = .returned (.string (strOfNums [])) ∧ Own W0 w' (rowR r (.slice none 0 0) true :: L) := by
  have Hc := Lib.hid (sized_no W0 w r v bad L zs most h hp hs)
  clear h hp hs
  go_enter Tryd.func15, Tryd.ntmps15
  go_wp2_with fail
  refine Hc.out.mono ?_
  rintro e w1 ⟨rfl, hO⟩
  have HO := Lib.hid hO
  have hcv := (By.nil w1).toStr
  clear hO
  go_wp2_with fail
  go_ret
  exact ⟨rfl, HO.out⟩
theorem Rd.text {W0 : Base} {w : World} {L : List Rw} {r : Nat} {zs : List Int} {bad : Bool} (h : Rd W0 w L r zs bad) (most : Int) :
    Calls Tryd.prog 15 #[.pointer (some ⟨r, 0, none⟩), .int .i64 most] w fun e w' => e = .returned (.string (strOfNums (bodP most zs bad).1)) ∧ Rd W0 w' L r (bodP most zs bad).2.1 (bodP most zs bad).2.2 := by
  obtain ⟨v, h1, h2⟩ := h
  unfold bodP
  by_cases hs : isSized zs most
  · rw [if_pos hs]
    exact (rtext_yes W0 w r v bad L zs most h1 h2 hs).mono fun e w' ⟨v', a, b, c⟩ => ⟨a, v', b, c⟩
  · rw [if_neg hs]
    exact (rtext_no W0 w r v bad L zs most h1 h2 hs).mono fun e w' ⟨a, b⟩ => ⟨a, _, b, Pc.nil L⟩
theorem bodP_byts {most : Int} {zs : List Int} {bad : Bool} (h : Byts zs) : Byts (bodP most zs bad).1 ∧ Byts (bodP most zs bad).2.1 := by
  unfold bodP
  by_cases hs : isSized zs most
  · rw [if_pos hs]; exact ⟨(h.drop 4).take _, (h.drop 4).drop _⟩
  · rw [if_neg hs]; exact ⟨Byts.nil, Byts.nil⟩
set_option maxHeartbeats 1600000 in
theorem rlist_no (W0 : Base) (w : World) (r : Nat) (v : Value) (bad : Bool) (L : List Rw) (zs : List Int) (h : Own W0 w (rowR r v bad :: L)) (hp : Pc L v zs) (hs : ¬ isSized zs 16777216) :
    Calls Tryd.prog 13 #[.pointer (some ⟨r, 0, none⟩)] w fun e w' => ∃ r2, e = .returned (.pointer (some ⟨r2, 0, none⟩)) ∧ Own W0 w' (rowR r2 (.slice none 0 0) true :: rowR r (.slice none 0 0) true :: L) := by
  have Hc := Lib.hid (sized_no W0 w r v bad L zs 16777216 h hp hs)
  have hzr := zero_reader
  clear h hp hs
  go_enter Tryd.func13, Tryd.ntmps13
  go_wp2_with fail
  refine Hc.out.mono ?_
  rintro e w1 ⟨rfl, hO⟩
  have HO := Lib.hid hO
  clear hO
  go_wp2_with fail
  go_ret
  exact ⟨_, rfl, HO.out.made 60 2 #[.slice none 0 0, .bool true] 1 rfl (by unfold maxLen; decide)⟩
/-- Two readers, the second of a part of the first. -/
def Rd2 (W0 : Base) (w : World) (L : List Rw) (r2 : Nat) (zs2 : List Int) (bad2 : Bool) (r : Nat) (zs : List Int) (bad : Bool) : Prop := ∃ v2 v, Own W0 w (rowR r2 v2 bad2 :: rowR r v bad :: L) ∧ Pc L v2 zs2 ∧ Pc L v zs
theorem Rd.list {W0 : Base} {w : World} {L : List Rw} {r : Nat} {zs : List Int} {bad : Bool} (h : Rd W0 w L r zs bad) :
    Calls Tryd.prog 13 #[.pointer (some ⟨r, 0, none⟩)] w fun e w' => ∃ r2, e = .returned (.pointer (some ⟨r2, 0, none⟩)) ∧ Rd2 W0 w' L r2 (bodP 16777216 zs false).1 (bodP 16777216 zs false).2.2 r (bodP 16777216 zs bad).2.1 (bodP 16777216 zs bad).2.2 := by
  obtain ⟨v, h1, h2⟩ := h
  unfold bodP
  by_cases hs : isSized zs 16777216
  · rw [if_pos hs, if_pos hs]
    exact (rlist_yes W0 w r v bad L zs h1 h2 hs).mono fun e w' ⟨r2, v1, v2, a, b, c, d⟩ => ⟨r2, a, v1, v2, b, c, d⟩
  · rw [if_neg hs, if_neg hs]
    exact (rlist_no W0 w r v bad L zs h1 h2 hs).mono fun e w' ⟨r2, a, b⟩ => ⟨r2, a, _, _, b, Pc.nil L, Pc.nil L⟩
/-- The inner one is a reader; behind its calls both are again. -/
theorem Rd2.inner {W0 : Base} {w : World} {L : List Rw} {r2 r : Nat} {zs2 zs : List Int} {bad2 bad : Bool} (h : Rd2 W0 w L r2 zs2 bad2 r zs bad) : ∃ v, Pc L v zs ∧ Rd W0 w (rowR r v bad :: L) r2 zs2 bad2 := by
  obtain ⟨v2, v, h1, h2, h3⟩ := h
  exact ⟨v, h3, v2, h1, h2.cons _⟩
theorem Rd2.outer {W0 : Base} {w : World} {L : List Rw} {r2 r : Nat} {zs2 zs : List Int} {bad2 bad : Bool} (h : Rd2 W0 w L r2 zs2 bad2 r zs bad) : Rd W0 w L r zs bad := by
  obtain ⟨v2, v, h1, h2, h3⟩ := h
  exact ⟨v, h1.tail, h3⟩
theorem rread_rd (v : Value) (zs : List Int) (w : World) (h : By w v zs) (hl : zs.length ≤ 140737488355328) (W0 : Base) (L : List Rw) (hO : Own W0 w L) :
    Calls Tryd.prog 11 #[v] w fun e w' => ∃ r L1, e = .returned (.pointer (some ⟨r, 0, none⟩)) ∧ Rd W0 w' (L1 ++ L) r zs false := by
  refine (rread_any v zs w h hl).mono fun e w' hd => ?_
  obtain ⟨r, v', a, b, c⟩ := hd
  exact ⟨r, [rowU v' zs], a, v', hO.join b, c.mono fun x hx => List.mem_append_left _ hx⟩
end Go.Proofs.YtjhaihckbmkiaaaDoor
