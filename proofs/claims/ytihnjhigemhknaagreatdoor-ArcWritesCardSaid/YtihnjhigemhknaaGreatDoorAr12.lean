/- What is taken as long as there is something left: needs, texts. -/
import Derived.Test.YtihnjhigemhknaaGreatDoorAr11
import Derived.Deep.LoopGhost
namespace Go.Proofs.YtihnjhigemhknaaGreatDoor
open Go.RowKit
set_option linter.unusedVariables false
set_option linter.unusedSimpArgs false
set_option maxRecDepth 100000

/-- What comes off bytes, one by one. -/
def runT {α : Type} (f : List Int → Bool → α × List Int × Bool) : Nat → List Int → Bool → List α
  | 0, _, _ => []
  | k + 1, zs, bad => if zs.length = 0 then [] else (f zs bad).1 :: runT f k (f zs bad).2.1 (f zs bad).2.2
theorem runT_nil {α : Type} (f : List Int → Bool → α × List Int × Bool) (k : Nat) (zs : List Int) (bad : Bool) (h : zs.length = 0) : runT f k zs bad = [] := by
  cases k with
  | zero => rfl
  | succ k => unfold runT; rw [if_pos h]
theorem runT_step {α : Type} (f : List Int → Bool → α × List Int × Bool) (k : Nat) (zs : List Int) (bad : Bool) (h : 0 < zs.length) (hk : zs.length ≤ k) (hf : (f zs bad).2.1.length < zs.length) : ∃ m, runT f k zs bad = (f zs bad).1 :: runT f m (f zs bad).2.1 (f zs bad).2.2 ∧ (f zs bad).2.1.length ≤ m := by
  obtain ⟨m, rfl⟩ : ∃ m, k = m + 1 := ⟨k - 1, by omega⟩
  refine ⟨m, ?_, by omega⟩
  rw [runT, if_neg (by omega)]
theorem bodP_len (most : Int) (zs : List Int) (bad : Bool) : (bodP most zs bad).2.1.length + 4 ≤ zs.length ∨ (bodP most zs bad).2.1 = [] := by
  unfold bodP
  split
  · rename_i hs
    left
    obtain ⟨h1, _, _⟩ := hs
    unfold restOf
    rw [List.length_drop, List.length_drop]
    omega
  · exact .inr rfl
theorem numP_len (most : Int) (zs : List Int) (bad : Bool) : (numP most zs bad).2.1.length ≤ zs.length := by
  unfold numP
  split
  · rw [List.length_drop]; omega
  · simp
theorem bodP_le (most : Int) (zs : List Int) (bad : Bool) : (bodP most zs bad).2.1.length ≤ zs.length ∧ (0 < zs.length → (bodP most zs bad).2.1.length < zs.length) := by
  rcases bodP_len most zs bad with h | h
  · omega
  · rw [h]; simp
theorem needT_len (zs : List Int) (bad : Bool) (h : 0 < zs.length) : (needT zs bad).2.1.length < zs.length := by
  unfold needT
  dsimp only
  have h1 := (bodP_le mxI zs bad).2 h
  have h2 := numP_len mxI (bodP mxI zs bad).2.1 (bodP mxI zs bad).2.2
  have h3 := (bodP_le mxI (numP mxI (bodP mxI zs bad).2.1 (bodP mxI zs bad).2.2).2.1 (numP mxI (bodP mxI zs bad).2.1 (bodP mxI zs bad).2.2).2.2).1
  omega
theorem fileT_len (zs : List Int) (bad : Bool) (h : 0 < zs.length) : (fileT zs bad).2.1.length < zs.length := by
  unfold fileT
  dsimp only
  have h1 := (bodP_le mxI zs bad).2 h
  have h2 := numP_len 1 (bodP mxI zs bad).2.1 (bodP mxI zs bad).2.2
  have h3 := (bodP_le mxI (numP 1 (bodP mxI zs bad).2.1 (bodP mxI zs bad).2.2).2.1 (numP 1 (bodP mxI zs bad).2.1 (bodP mxI zs bad).2.2).2.2).1
  omega
def textT (zs : List Int) (bad : Bool) : ByteArray × List Int × Bool := (strOfNums (bodP mxI zs bad).1, (bodP mxI zs bad).2.1, (bodP mxI zs bad).2.2)
theorem textT_len (zs : List Int) (bad : Bool) (h : 0 < zs.length) : (textT zs bad).2.1.length < zs.length := (bodP_le mxI zs bad).2 h
theorem atextT_any {W0 : Base} {w : World} {L : List Rw} {r : Nat} {zs : List Int} {bad : Bool} (h : Rd W0 w L r zs bad) :
    Calls Tryz.prog 55 #[.pointer (some ⟨r, 0, none⟩)] w fun e w' => e = .returned (.string (textT zs bad).1) ∧ Rd W0 w' L r (textT zs bad).2.1 (textT zs bad).2.2 := atext_any h
/-- How much is left to a reader. -/
def leftA (wr : World) (r : Nat) : Nat := match wr.cell? ⟨r, 0, none⟩ with
  | some (.slice _ n _) => n
  | _ => 0
theorem Rd.left {W0 : Base} {w : World} {L : List Rw} {r : Nat} {zs : List Int} {bad : Bool} (h : Rd W0 w L r zs bad) : leftA w r = zs.length := by
  obtain ⟨v, h1, h2⟩ := h
  have h3 := (reader_cells h1).1
  obtain ⟨a, c, hv, _⟩ := h2
  unfold leftA
  rw [h3, hv]
theorem Rd.rowOut {W0 : Base} {w : World} {q : Rw} {L : List Rw} {r : Nat} {zs : List Int} {bad : Bool} (h : Rd W0 w (q :: L) r zs bad) (hq : q.e ≠ 5) : ∃ v, Own W0 w (q :: rowR r v bad :: L) ∧ Pc L v zs := by
  obtain ⟨v, h1, h2⟩ := h
  refine ⟨v, h1.swap, h2.keep fun x hx he => ?_⟩
  rcases List.mem_cons.1 hx with rfl | hx
  · exact absurd he hq
  · exact hx
theorem Rd.rowIn {W0 : Base} {w : World} {q : Rw} {L : List Rw} {r : Nat} {v : Value} {zs : List Int} {bad : Bool} (h : Own W0 w (q :: rowR r v bad :: L)) (hp : Pc L v zs) : Rd W0 w (q :: L) r zs bad := ⟨v, h.swap, hp.cons _⟩
def rowE {α : Type} (T : TypeId) (size : Nat) (cells : α → List Value) (v : Value) (ns : List α) : Rw := ⟨T, size, v, ns.length, (ns.map cells).flatten⟩
def TkRel {α : Type} (W0 : Base) (L : List Rw) (r : Nat) (T : TypeId) (size : Nat) (cells : α → List Value) (f : List Int → Bool → α × List Int × Bool) (zs0 : List Int) (bad0 : Bool) (v : Value) (wr : World) : Prop :=
  ∃ (ns : List α) (zs : List Int) (bad : Bool) (m : Nat), Rd W0 wr (rowE T size cells v ns :: L) r zs bad ∧ runT f zs0.length zs0 bad0 = ns ++ runT f m zs bad ∧ zs.length ≤ m ∧ ns.length + zs.length ≤ zs0.length
theorem info3 {T : TypeId} {z : Value} {b n : Nat} (h : (Tryz.prog.info? T).map (fun i => (i.zero, i.size, i.bytes)) = some (some z, n, b)) : ∃ i, Tryz.prog.info? T = some i ∧ i.zero = some z ∧ i.size = n ∧ i.bytes = b := by
  cases hi : Tryz.prog.info? T with
  | none => rw [hi] at h; cases h
  | some i =>
    rw [hi] at h
    injection h with h
    injection h with h1 h2
    injection h2 with h2 h3
    exact ⟨i, rfl, h1, h2, h3⟩
theorem src_three (w : World) (a b c : Value) (T : TypeId) (ha : a.oneCell' = true) (hb : b.oneCell' = true) (hc : c.oneCell' = true) : Src (w.alloc (.cells #[a, b, c] T)) (.slice (some ⟨w.heap.size, 0, none⟩) 1 1) 1 [a, b, c] := by
  refine .inr ⟨_, _, rfl, fun j u hj => ?_, fun u hu => ?_⟩
  · rw [Addr.add_mid, Nat.zero_add, World.cell?_alloc_new]
    have e : (#[a, b, c] : Array Value)[j]? = ([a, b, c] : List Value)[j]? := by rw [← Array.getElem?_toList]
    rw [e]; exact hj
  · simp only [List.mem_cons, List.not_mem_nil, or_false] at hu
    rcases hu with rfl | rfl | rfl <;> assumption

theorem info_needE : (Tryz.prog.info? 53).map (fun i => (i.zero, i.size, i.bytes)) = some (some (.agg #[.string ⟨#[]⟩, .int .i64 0, .string ⟨#[]⟩]), 3, 40) := by kernel_rfl
set_option maxHeartbeats 8000000 in
theorem need_take {W0 : Base} {w : World} {L : List Rw} {r : Nat} {zs : List Int} {bad : Bool} (h : Rd W0 w L r zs bad) (hz : zs.length ≤ 100000000) :
    Calls Tryz.prog 56 #[.pointer (some ⟨r, 0, none⟩), .func (.func 58) #[] #[]] w fun e w' => ∃ v bad', e = .returned v ∧ Rd W0 w' (rowE 53 3 NeedD.cells v (runT needT zs.length zs bad) :: L) r [] bad' := by
  have hT : (53 : TypeId) ≠ 5 := by decide
  have Hst := Lib.hid (show TkRel W0 L r 53 3 NeedD.cells needT zs bad (.slice none 0 0) w from by
    obtain ⟨v, h1, h2⟩ := h
    exact ⟨[], zs, bad, zs.length, Rd.rowIn (h1.nil 53 3) h2, rfl, Nat.le_refl _, by simp⟩)
  obtain ⟨inf, hi0, hi1, hi2, hi3⟩ := info3 info_needE
  clear h
  go_enter Tryz.func56, Tryz.ntmps56
  go_wp2_with fail
  go_loopw [5] (fun v wr => TkRel W0 L r 53 3 NeedD.cells needT zs bad v wr) (fun _ wr => leftA wr r)
  case atStart => exact Hst.out
  case round =>
    obtain ⟨ns, zs1, bad1, m, hR, hrun, hm, hns⟩ := hrel
    clear Hst
    have hmore := hR.more
    have Hleft := Lib.hid hR.left
    rcases Nat.eq_zero_or_pos zs1.length with h0 | h0
    · rw [decide_eq_false (by omega)] at hmore
      have hz1 : zs1 = [] := List.eq_nil_of_length_eq_zero h0
      rw [runT_nil needT m zs1 bad1 h0, List.append_nil] at hrun
      obtain ⟨q, hq⟩ := id hR
      obtain ⟨fa, fc, hv, _, _⟩ := Own.sized (h := (show Own W0 wr (⟨53, 3, u5, ns.length, (ns.map NeedD.cells).flatten⟩ :: rowR r q bad1 :: L) from hq.1.swap))
      subst hz1
      subst hv
      subst hrun
      have HR := Lib.hid hR
      clear hq hR hm hns h0
      generalize (runT needT zs.length zs bad).length = ln at *
      go_wp2_with fail
      refine hmore.mono ?_
      rintro e w2 ⟨rfl, rfl⟩
      go_wp2_with fail
      go_ret
      exact ⟨_, bad1, rfl, HR.out⟩
    · rw [decide_eq_true h0] at hmore
      have hcall := aneed_any hR
      have hlt := needT_len zs1 bad1 h0
      obtain ⟨m2, hrs, hm2⟩ := runT_step needT m zs1 bad1 h0 hm hlt
      rw [hrs] at hrun
      have Hb1 := Lib.hid (show ns.length + 1 ≤ maxLen by unfold maxLen; omega)
      have Hb2 := Lib.hid (show (ns.length + 1) * 40 ≤ 140737488355328 by omega)
      obtain ⟨q, hq⟩ := id hR
      obtain ⟨fa, fc, hv, _, _⟩ := Own.sized (h := (show Own W0 wr (⟨53, 3, u5, ns.length, (ns.map NeedD.cells).flatten⟩ :: rowR r q bad1 :: L) from hq.1.swap))
      have Hrun := Lib.hid hrun
      have Hlt := Lib.hid (show (needT zs1 bad1).2.1.length < leftA wr r by rw [Hleft.out]; exact hlt)
      have Hm2 := Lib.hid hm2
      have Hns := Lib.hid (show (ns.length + 1) + (needT zs1 bad1).2.1.length ≤ zs.length by omega)
      subst hv
      clear hq hR hrun hrs hm hm2 hns hlt Hleft h0
      generalize needT zs1 bad1 = X at *
      obtain ⟨x, rest, bad2⟩ := X
      dsimp only at *
      go_wp2_with fail
      refine hmore.mono ?_
      rintro e w2 ⟨rfl, rfl⟩
      go_wp2_with fail
      refine hcall.mono ?_
      rintro e w3 ⟨rfl, h3⟩
      obtain ⟨vr, h4, hp4⟩ := h3.rowOut hT
      have HO := Lib.hid (show Own W0 (w3.alloc (.cells #[Value.string x.name, .int .i64 x.way, .string x.ver] 53)) (⟨53, 3, .slice fa ns.length fc, ns.length, (ns.map NeedD.cells).flatten⟩ :: rowR r vr bad2 :: L) from h4.alloc _)
      have Hsrc := Lib.hid (src_three w3 (.string x.name) (.int .i64 x.way) (.string x.ver) 53 rfl rfl rfl)
      have Hp4 := Lib.hid hp4
      clear hcall hmore h3 h4 hp4
      obtain ⟨xs, hxs⟩ : ∃ xs, (ns.map NeedD.cells).flatten = xs := ⟨_, rfl⟩
      rw [hxs] at HO
      have Hxs := Lib.hid hxs
      clear hxs
      go_wp2_with (at_builtin; refine wpList_append_src rfl (.tmp 8) (.tmp 12) 22 rfl (.slice fa ns.length fc) ns.length xs (.slice (some ⟨w3.heap.size, 0, none⟩) 1 1) 1 [Value.string x.name, .int .i64 x.way, .string x.ver] rfl rfl HO.out inf (.agg #[.string ⟨#[]⟩, .int .i64 0, .string ⟨#[]⟩]) 40 Tryz.underlying22 hi0 hi1 hi2 hi3 rfl (by decide) Hsrc.out rfl Hb1.out Hb2.out ?_)
      intro v9 w9 hO9
      have HX := Lib.hid (show TkRel W0 L r 53 3 NeedD.cells needT zs bad v9 w9 ∧ leftA w9 r < leftA wr r from by
        have hR9 : Rd W0 w9 (rowE 53 3 NeedD.cells v9 (ns ++ [x]) :: L) r rest bad2 := by
          refine Rd.rowIn ?_ Hp4.out
          have e : rowE 53 3 NeedD.cells v9 (ns ++ [x]) = ⟨53, 3, v9, ns.length + 1, xs ++ [Value.string x.name, .int .i64 x.way, .string x.ver]⟩ := by
            unfold rowE
            rw [← Hxs.out]
            simp [NeedD.cells]
          rw [e]; exact hO9
        exact ⟨⟨ns ++ [x], rest, bad2, m2, hR9, by rw [Hrun.out]; simp, Hm2.out, by have := Hns.out; simp; omega⟩, by rw [hR9.left]; exact Hlt.out⟩)
      obtain ⟨a9, c9, hv9, _, _⟩ := Own.sized (h := hO9)
      subst hv9
      clear hO9 HO Hsrc Hb1 Hb2 Hxs Hp4 Hrun Hlt Hm2 Hns
      go_wp2_with fail
      go_roundw
      case rel => exact HX.out.1
      case measure => exact HX.out.2

theorem info_textE : (Tryz.prog.info? 9).map (fun i => (i.zero, i.size, i.bytes)) = some (some (.string ⟨#[]⟩), 1, 16) := by kernel_rfl
set_option maxHeartbeats 8000000 in
theorem text_take {W0 : Base} {w : World} {L : List Rw} {r : Nat} {zs : List Int} {bad : Bool} (h : Rd W0 w L r zs bad) (hz : zs.length ≤ 100000000) :
    Calls Tryz.prog 59 #[.pointer (some ⟨r, 0, none⟩), .func (.func 55) #[] #[]] w fun e w' => ∃ v bad', e = .returned v ∧ Rd W0 w' (rowE 9 1 (fun s => [Value.string s]) v (runT textT zs.length zs bad) :: L) r [] bad' := by
  have hT : (9 : TypeId) ≠ 5 := by decide
  have Hst := Lib.hid (show TkRel W0 L r 9 1 (fun s => [Value.string s]) textT zs bad (.slice none 0 0) w from by
    obtain ⟨v, h1, h2⟩ := h
    exact ⟨[], zs, bad, zs.length, Rd.rowIn (h1.nil 9 1) h2, rfl, Nat.le_refl _, by simp⟩)
  obtain ⟨inf, hi0, hi1, hi2, hi3⟩ := info3 info_textE
  clear h
  go_enter Tryz.func59, Tryz.ntmps59
  go_wp2_with fail
  go_loopw [5] (fun v wr => TkRel W0 L r 9 1 (fun s => [Value.string s]) textT zs bad v wr) (fun _ wr => leftA wr r)
  case atStart => exact Hst.out
  case round =>
    obtain ⟨ns, zs1, bad1, m, hR, hrun, hm, hns⟩ := hrel
    clear Hst
    have hmore := hR.more
    have Hleft := Lib.hid hR.left
    rcases Nat.eq_zero_or_pos zs1.length with h0 | h0
    · rw [decide_eq_false (by omega)] at hmore
      have hz1 : zs1 = [] := List.eq_nil_of_length_eq_zero h0
      rw [runT_nil textT m zs1 bad1 h0, List.append_nil] at hrun
      obtain ⟨q, hq⟩ := id hR
      obtain ⟨fa, fc, hv, _, _⟩ := Own.sized (h := (show Own W0 wr (⟨9, 1, u5, ns.length, (ns.map (fun s => [Value.string s])).flatten⟩ :: rowR r q bad1 :: L) from hq.1.swap))
      subst hz1
      subst hv
      subst hrun
      have HR := Lib.hid hR
      clear hq hR hm hns h0
      generalize (runT textT zs.length zs bad).length = ln at *
      go_wp2_with fail
      refine hmore.mono ?_
      rintro e w2 ⟨rfl, rfl⟩
      go_wp2_with fail
      go_ret
      exact ⟨_, bad1, rfl, HR.out⟩
    · rw [decide_eq_true h0] at hmore
      have hcall := atextT_any hR
      have hlt := textT_len zs1 bad1 h0
      obtain ⟨m2, hrs, hm2⟩ := runT_step textT m zs1 bad1 h0 hm hlt
      rw [hrs] at hrun
      have Hb1 := Lib.hid (show ns.length + 1 ≤ maxLen by unfold maxLen; omega)
      have Hb2 := Lib.hid (show (ns.length + 1) * 16 ≤ 140737488355328 by omega)
      obtain ⟨q, hq⟩ := id hR
      obtain ⟨fa, fc, hv, _, _⟩ := Own.sized (h := (show Own W0 wr (⟨9, 1, u5, ns.length, (ns.map (fun s => [Value.string s])).flatten⟩ :: rowR r q bad1 :: L) from hq.1.swap))
      have Hrun := Lib.hid hrun
      have Hlt := Lib.hid (show (textT zs1 bad1).2.1.length < leftA wr r by rw [Hleft.out]; exact hlt)
      have Hm2 := Lib.hid hm2
      have Hns := Lib.hid (show (ns.length + 1) + (textT zs1 bad1).2.1.length ≤ zs.length by omega)
      subst hv
      clear hq hR hrun hrs hm hm2 hns hlt Hleft h0
      generalize textT zs1 bad1 = X at *
      obtain ⟨x, rest, bad2⟩ := X
      dsimp only at *
      go_wp2_with fail
      refine hmore.mono ?_
      rintro e w2 ⟨rfl, rfl⟩
      go_wp2_with fail
      refine hcall.mono ?_
      rintro e w3 ⟨rfl, h3⟩
      obtain ⟨vr, h4, hp4⟩ := h3.rowOut hT
      have HO := Lib.hid (show Own W0 (w3.alloc (.cells #[Value.string x] 9)) (⟨9, 1, .slice fa ns.length fc, ns.length, (ns.map (fun s => [Value.string s])).flatten⟩ :: rowR r vr bad2 :: L) from h4.alloc _)
      have Hsrc := Lib.hid (src_oneA w3 (.string x) 9 rfl)
      have Hp4 := Lib.hid hp4
      clear hcall hmore h3 h4 hp4
      obtain ⟨xs, hxs⟩ : ∃ xs, (ns.map (fun s => [Value.string s])).flatten = xs := ⟨_, rfl⟩
      rw [hxs] at HO
      have Hxs := Lib.hid hxs
      clear hxs
      go_wp2_with (at_builtin; refine wpList_append_src rfl (.tmp 8) (.tmp 12) 23 rfl (.slice fa ns.length fc) ns.length xs (.slice (some ⟨w3.heap.size, 0, none⟩) 1 1) 1 [Value.string x] rfl rfl HO.out inf (.string ⟨#[]⟩) 16 Tryz.underlying23 hi0 hi1 hi2 hi3 rfl (by decide) Hsrc.out rfl Hb1.out Hb2.out ?_)
      intro v9 w9 hO9
      have HX := Lib.hid (show TkRel W0 L r 9 1 (fun s => [Value.string s]) textT zs bad v9 w9 ∧ leftA w9 r < leftA wr r from by
        have hR9 : Rd W0 w9 (rowE 9 1 (fun s => [Value.string s]) v9 (ns ++ [x]) :: L) r rest bad2 := by
          refine Rd.rowIn ?_ Hp4.out
          have e : rowE 9 1 (fun s => [Value.string s]) v9 (ns ++ [x]) = ⟨9, 1, v9, ns.length + 1, xs ++ [Value.string x]⟩ := by
            unfold rowE
            rw [← Hxs.out]
            simp
          rw [e]; exact hO9
        exact ⟨⟨ns ++ [x], rest, bad2, m2, hR9, by rw [Hrun.out]; simp, Hm2.out, by have := Hns.out; simp; omega⟩, by rw [hR9.left]; exact Hlt.out⟩)
      obtain ⟨a9, c9, hv9, _, _⟩ := Own.sized (h := hO9)
      subst hv9
      clear hO9 HO Hsrc Hb1 Hb2 Hxs Hp4 Hrun Hlt Hm2 Hns
      go_wp2_with fail
      go_roundw
      case rel => exact HX.out.1
      case measure => exact HX.out.2
end Go.Proofs.YtihnjhigemhknaaGreatDoor
