/- place: units are placed, again and again the least one that may be. -/
import Derived.Test.YtnjabanjgckeoaaG7
namespace Go.Proofs.Ytnjabanjgckeoaa
open Go.RowKit
open Go.ChangeMaps (setBlock)
set_option linter.unusedVariables false
set_option linter.unusedSimpArgs false
set_option maxRecDepth 100000

theorem run_store_func {P : Program} {w : World} {a : Addr} {m : Mode} (f : Fn) (bd lb : Array Value) : (store a (.func f bd lb) m).run P w = stored P w a (.func f bd lb) m := run_store P w a _ m rfl
attribute [local go_sem] run_store_func
theorem run_load_at {P : Program} {w : World} {a : Addr} {v : Value} (h : w.cell? a = some v) : (load a).run P w = .ok v w := by
  simp [load, Sem.run, h]
/-- A result in a slot, and one in a variable of one cell. -/
theorem ret_tmp_cell1 {P : Program} {fn : Func} {p q : Tmp} {ty : TypeId} (h : fn.results = #[.tmp p, .cell q ty]) {tmps : Array Value} {w : World} {b : Nat} {v x : Value} (hp : tmps.getD p undef = x) (hq : tmps.getD q undef = .pointer (some ⟨b, 0, none⟩))
    (hr : w.cell? ⟨b, 0, none⟩ = some v) (ha : (isAgg ty).run P w = .ok false w) : (results fn tmps).run P w = .ok (.tuple #[x, v]) w := by
  have e : (asAddr (.pointer (some ⟨b, 0, none⟩))).run P w = .ok ⟨b, 0, none⟩ w := rfl
  have hp' : tmps[p]?.getD undef = x := by simpa using hp
  have hq' : tmps[q]?.getD undef = .pointer (some ⟨b, 0, none⟩) := by simpa using hq
  have hl : (loadVar ty ⟨b, 0, none⟩).run P w = .ok v w := by
    unfold loadVar
    simp [Sem.run_bind, ha, Result.andThen, run_load_at hr]
  simp only [results, h]
  simp [Sem.run_bind, Result.andThen, hp', hq', e, hl]
/-- A variable of one cell. -/
abbrev rowV1 (T b : Nat) (v : Value) : Rw := ⟨T, 1, .slice (some ⟨b, 0, none⟩) 1 1, 1, [v]⟩
def lenV : Value → Nat
  | .slice _ n _ => n
  | _ => 0
theorem placeN_none {beh : Nm → List Nm} {f : Nat} {ord left : List Nm} (h : left.findIdx? (freeN beh left) = none) : placeN beh f ord left = (ord, left) := by
  cases f with
  | zero => rfl
  | succ f => rw [placeN, h]
theorem placeN_some {beh : Nm → List Nm} {ord left : List Nm} {k : Nat} (hk : k < left.length) (h : left.findIdx? (freeN beh left) = some k) : placeN beh left.length ord left = placeN beh (left.eraseIdx k).length (ord ++ [left[k]]) (left.eraseIdx k) := by
  have e : left.length = (left.eraseIdx k).length + 1 := by rw [List.length_eraseIdx, if_pos hk]; omega
  conv => lhs; rw [e, placeN, h]
  show placeN beh _ (ord ++ [left.getD k []]) _ = _
  rw [show left.getD k [] = left[k] by rw [List.getD, List.getElem?_eq_getElem hk]; rfl]
structure PlSt (W0 : Base) (L : List Rw) (beh : Nm → List Nm) (names : List Nm) (b2 g : Nat) (vf : Value) (ord left : List Nm) (v4 v5 : Value) (w : World) : Prop where
  own : Own W0 w (rowSs v4 ord :: rowSs v5 left :: rowV1 23 (b2 + 1) v5 :: rowV1 50 (b2 + 1 + 1) vf :: rowV1 26 b2 (.pointer (some ⟨g, 0, none⟩)) :: L)
  sub : ∀ x ∈ left, x ∈ names
  tot : ord.length + left.length = names.length
  goes : placeN beh left.length ord left = placeN beh names.length [] names
theorem PlSt.calls {W0 : Base} {L : List Rw} {beh : Nm → List Nm} {names ks : List Nm} {b2 g bb : Nat} {vf : Value} {ord left : List Nm} {v4 v5 : Value} {w : World} (h : PlSt W0 L beh names b2 g vf ord left v4 v5 w) (hvf : vf = .func (.func 42) #[] #[.pointer (some ⟨b2 + 1, 0, none⟩)])
    (hbe : ∀ w', Own W0 w' L → BeAt w' g bb ks beh) (hks : ∀ x ∈ names, x ∈ ks) :
    Calls Try.prog 20 #[v5, .func (.func 43) #[] #[.pointer (some ⟨b2, 0, none⟩), .pointer (some ⟨b2 + 1 + 1, 0, none⟩)]] w fun e w' => e = .returned (.int .i64 (idxF (freeN beh left) left)) ∧ PlSt W0 L beh names b2 g vf ord left v4 v5 w' := by
  have hO := h.own
  have c5 : w.cell? ⟨b2 + 1, 0, none⟩ = some v5 := hO.third.cell 0 (by decide)
  have c6 : w.cell? ⟨b2 + 1 + 1, 0, none⟩ = some vf := hO.fourth.cell 0 (by decide)
  have c2 : w.cell? ⟨b2, 0, none⟩ = some (.pointer (some ⟨g, 0, none⟩)) := hO.fifth.cell 0 (by decide)
  have hs := hO.swap.sts
  have hL : Own W0 w L := hO.tail.tail.tail.tail.tail
  refine (index_lb 43 #[.pointer (some ⟨b2, 0, none⟩), .pointer (some ⟨b2 + 1 + 1, 0, none⟩)] (freeN beh left) (enters_of Try.func43 (by kernel_rfl) rfl) v5 left w hs (fun W x hx hb => ?_)).mono ?_
  · have l2 := World.block_lt_of_cell? w ⟨b2, 0, none⟩ c2
    have l5 := World.block_lt_of_cell? w ⟨b2 + 1, 0, none⟩ c5
    have l6 := World.block_lt_of_cell? w ⟨b2 + 1 + 1, 0, none⟩ c6
    exact free_any (hbe W (hL.later hb)) ((hb.cell (p := ⟨b2, 0, none⟩) l2).trans c2) ((hb.cell (p := ⟨b2 + 1 + 1, 0, none⟩) l6).trans (hvf ▸ c6)) ((hb.cell (p := ⟨b2 + 1, 0, none⟩) l5).trans c5) (hs.later hb) x (hks x (h.sub x hx))
  · rintro e w' ⟨rfl, hb⟩
    exact ⟨rfl, hO.later hb, h.sub, h.tot, h.goes⟩
set_option maxHeartbeats 4000000 in
theorem placeG_any {W0 : Base} {w : World} {L : List Rw} {g bb : Nat} {ks names : List Nm} {beh : Nm → List Nm} {v : Value} (h : Own W0 w (rowSs v names :: L)) (hbe : ∀ w', Own W0 w' L → BeAt w' g bb ks beh) (hks : ∀ x ∈ names, x ∈ ks) (hlen : names.length ≤ 1000) :
    Calls Try.prog 23 #[.pointer (some ⟨g, 0, none⟩), v] w fun e w' => ∃ v1 v2, e = .returned (.tuple #[v1, v2]) ∧ Own W0 w' (rowSs v1 (placeN beh names.length [] names).1 :: rowSs v2 (placeN beh names.length [] names).2 :: L) := by
  obtain ⟨i0, hi, hz0, hz1, hz2⟩ := infoS_ex
  obtain ⟨a, m, c, rfl⟩ := h.sts.shape
  have O1 := h.made_at 26 1 #[.pointer (some ⟨g, 0, none⟩)] 1 w.heap.size rfl rfl (by unfold maxLen; decide)
  have O2 := O1.made_at 23 1 #[.slice a m c] 1 (w.heap.size + 1) (by simp) rfl (by unfold maxLen; decide)
  have O3 := O2.made_at 50 1 #[(.func (.func 42) #[] #[.pointer (some ⟨w.heap.size + 1, 0, none⟩)])] 1 (w.heap.size + 1 + 1) (by simp) rfl (by unfold maxLen; decide)
  obtain ⟨W3, hW3⟩ : ∃ W3, W3 = (((w.alloc (.cells #[.pointer (some ⟨g, 0, none⟩)] 26)).alloc (.cells #[.slice a m c] 23)).alloc (.cells #[(.func (.func 42) #[] #[.pointer (some ⟨w.heap.size + 1, 0, none⟩)])] 50)) := ⟨_, rfl⟩
  rw [← hW3] at O3
  have hst : PlSt W0 L beh names w.heap.size g (.func (.func 42) #[] #[.pointer (some ⟨w.heap.size + 1, 0, none⟩)]) [] names (.slice none 0 0) (.slice a m c) W3 := by
    refine ⟨Own.nil (O3.fourth.perm ((List.Perm.swap _ _ _).cons _)) 9 1, fun x hx => hx, by simp, rfl⟩
  have HST := Lib.hid hst
  have HW3 := Lib.hid hW3
  have HBE := Lib.hid hbe
  have HKS := Lib.hid hks
  clear O1 O2 O3 hst h hW3 hbe hks
  go_enter Try.func23, Try.ntmps23
  go_upto_region 4 with fail
  rw [← HW3.out]
  have k0 := HST.out.calls rfl HBE.out HKS.out
  have c5 : W3.cell? ⟨w.heap.size + 1, 0, none⟩ = some (.slice a m c) := HST.out.own.third.cell 0 (by decide)
  clear HW3
  generalize hvf : Value.func (.func 42) #[] #[.pointer (some ⟨w.heap.size + 1, 0, none⟩)] = vf at k0 HST
  have HVF := Lib.hid hvf.symm
  clear hvf
  generalize w.heap.size = b2 at *
  go_wp2_with (go_at_call 20; refine k0.mono ?_; rintro e w4 ⟨rfl, hP⟩; have HP := Lib.hid hP; clear hP c5)
  go_loopw [4, 8] (fun s4 s8 wr => ∃ ord left v5, PlSt W0 L beh names b2 g vf ord left s4 v5 wr ∧ s8 = .int .i64 (idxF (freeN beh left) left)) (fun s4 _ _ => names.length - lenV s4)
  case atStart => exact ⟨_, _, _, HP.out, rfl⟩
  case round =>
    obtain ⟨ord, left, v5, hP, rfl⟩ := hrel
    have hO := hP.own
    have c5 : wr.cell? ⟨b2 + 1, 0, none⟩ = some v5 := hO.third.cell 0 (by decide)
    have f5 : wr.frozen? ⟨b2 + 1, 0, none⟩ = false := hO.third.free 0
    obtain ⟨a4, n4, c4, hv4⟩ := hO.sts.shape
    subst hv4
    rcases idxF_cases (freeN beh left) left with ⟨e1, e2, e3⟩ | ⟨k, hk, e1, e2, e3, _⟩
    · rw [e2]
      have hg := hP.goes
      rw [placeN_none e1] at hg
      obtain ⟨a5, n5, c5', hv5⟩ := hO.swap.sts.shape
      subst hv5
      have HO := Lib.hid hO
      have HG := Lib.hid hg
      clear hP hO hg e1 e2 e3
      go_wp2_with fail
      go_region
      have hO9 := (HO.out.third.set 0 (.slice a5 n5 c5')).drew
      have cR : (wr.setCell ⟨b2 + 1, 0, none⟩ (.slice a5 n5 c5')).drew.cell? ⟨b2 + 1, 0, none⟩ = some (.slice a5 n5 c5') := hO9.cell 0 (by decide)
      have HO9 := Lib.hid hO9
      clear hO9 c5 f5
      generalize (wr.setCell ⟨b2 + 1, 0, none⟩ (.slice a5 n5 c5')).drew = w9 at *
      go_wp2_with fail
      refine bodyPost_ret (v := .tuple #[.slice a4 n4 c4, .slice a5 n5 c5']) (ret_tmp_cell1 Try.results23 rfl rfl cR (Try.isAgg23 _)) rfl ?_
      refine ⟨_, _, rfl, ?_⟩
      rw [← HG.out]
      have h1 := HO9.out.tail
      have h2 : Own W0 w9 (rowV1 50 (b2 + 1 + 1) vf :: rowV1 26 b2 (.pointer (some ⟨g, 0, none⟩)) :: rowSs (.slice a4 n4 c4) ord :: rowSs (.slice a5 n5 c5') left :: L) := h1.perm (by
        have e1 := (List.Perm.swap (rowV1 50 (b2 + 1 + 1) vf) (rowSs (.slice a5 n5 c5') left) (rowV1 26 b2 (.pointer (some ⟨g, 0, none⟩)) :: L)).cons (rowSs (.slice a4 n4 c4) ord)
        have e2 := List.Perm.swap (rowV1 50 (b2 + 1 + 1) vf) (rowSs (.slice a4 n4 c4) ord) (rowSs (.slice a5 n5 c5') left :: rowV1 26 b2 (.pointer (some ⟨g, 0, none⟩)) :: L)
        have e3 := ((List.Perm.swap (rowV1 26 b2 (.pointer (some ⟨g, 0, none⟩))) (rowSs (.slice a5 n5 c5') left) L).cons (rowSs (.slice a4 n4 c4) ord)).cons (rowV1 50 (b2 + 1 + 1) vf)
        have e4 := (List.Perm.swap (rowV1 26 b2 (.pointer (some ⟨g, 0, none⟩))) (rowSs (.slice a4 n4 c4) ord) (rowSs (.slice a5 n5 c5') left :: L)).cons (rowV1 50 (b2 + 1 + 1) vf)
        exact e1.trans (e2.trans (e3.trans e4)))
      exact h2.tail.tail
    · rw [e2]
      have hnk : 0 ≤ (k : Int) := by omega
      obtain ⟨g5, c5', hv5, hg1, hg2, hg3, hg4⟩ := hO.swap.form (by omega)
      subst hv5
      have ck : wr.cell? ⟨g5, k, none⟩ = some (.string (toB left[k])) := Own.str hO.swap k hk
      have hlt : (k : Int) < (left.length : Int) := by omega
      have hgo := hP.goes
      rw [placeN_some hk e1] at hgo
      have HP := Lib.hid hP
      have HGO := Lib.hid hgo
      have htot := hP.tot
      have HO4 := Lib.hid (hO.alloc (.cells #[.string (toB left[k])] 9))
      have Hsrc := Lib.hid (src_one wr (.string (toB left[k])) 9 rfl)
      have Hb1 := Lib.hid (show ord.length + 1 ≤ maxLen from by unfold maxLen; omega)
      have Hb2 := Lib.hid (show (ord.length + 1) * 16 ≤ 140737488355328 from by omega)
      have Hk := Lib.hid hk
      have Htot := Lib.hid htot
      generalize hx : left[k] = x at *
      have Hx := Lib.hid hx
      obtain ⟨nl, hnl⟩ : ∃ nl, left.length = nl := ⟨_, rfl⟩
      rw [hnl] at hlt c5
      have hn1 : (nl : Int) ≤ 1000 := by omega
      have Hnl := Lib.hid hnl
      clear hP hO hgo htot e1 e2 e3 hx hnl hg1 hg2 hg3 hg4 hk
      go_wp2_with (at_builtin; refine wpList_append_src rfl (.tmp 20) (.tmp 25) 23 rfl (.slice a4 n4 c4) ord.length (strs ord) (.slice (some ⟨wr.heap.size, 0, none⟩) 1 1) 1 [.string (toB x)] rfl rfl HO4.out i0 (.string ⟨#[]⟩) 16 Try.underlying23 hi hz0 hz1 hz2 rfl (by decide) Hsrc.out (by simp) Hb1.out Hb2.out ?_)
      intro v4 w4 hO5
      have hO6 : Own W0 w4 (rowSs v4 (ord ++ [x]) :: rowSs (.slice (some ⟨g5, 0, none⟩) left.length c5') left :: rowV1 23 (b2 + 1) (.slice (some ⟨g5, 0, none⟩) left.length c5') :: rowV1 50 (b2 + 1 + 1) vf :: rowV1 26 b2 (.pointer (some ⟨g, 0, none⟩)) :: L) := by
        show Own W0 w4 (⟨9, 1, v4, (ord ++ [x]).length, strs (ord ++ [x])⟩ :: _)
        rw [List.length_append, show strs (ord ++ [x]) = strs ord ++ [.string (toB x)] from by simp [strs]]
        exact hO5
      have c5 : w4.cell? ⟨b2 + 1, 0, none⟩ = some (.slice (some ⟨g5, 0, none⟩) left.length c5') := hO6.third.cell 0 (by decide)
      have kd := delS_row hO6.swap k Hk.out (by have := Htot.out; omega)
      rw [Hnl.out] at c5 kd
      obtain ⟨a6, n6, c6, hv6⟩ := hO6.sts.shape
      subst hv6
      clear hO5 hO6
      go_wp2_with (go_at_call 44; refine kd.mono ?_; rintro e w7 ⟨v7, rfl, hO7⟩; obtain ⟨a7, n7, c7, hv7⟩ := hO7.sts.shape; subst hv7; have c57 : w7.cell? ⟨b2 + 1, 0, none⟩ = _ := hO7.third.cell 0 (by decide); have f57 : w7.frozen? ⟨b2 + 1, 0, none⟩ = false := hO7.third.free 0; have HO7 := Lib.hid hO7; clear hO7)
      have hP2 : PlSt W0 L beh names b2 g vf (ord ++ [x]) (left.eraseIdx k) (.slice a6 n6 c6) (.slice a7 n7 c7) (w7.setCell ⟨b2 + 1, 0, none⟩ (.slice a7 n7 c7)) := by
        have hel : (left.eraseIdx k).length = left.length - 1 := by rw [List.length_eraseIdx, if_pos Hk.out]
        have hll := Hk.out
        have htt := Htot.out
        refine ⟨(HO7.out.third.set 0 (.slice a7 n7 c7)).perm (List.Perm.trans (List.Perm.swap _ _ _) ((List.Perm.swap _ _ _).cons _) |>.trans (List.Perm.swap _ _ _)), fun y hy => HP.out.sub y (List.mem_of_mem_eraseIdx hy), by rw [hel, List.length_append]; simp; omega, HGO.out⟩
      have hlen6 : n6 = (ord ++ [x]).length := by
        obtain ⟨a', c', e', _⟩ := hP2.own.sts
        injection e'
      have HM := Lib.hid (show names.length - lenV (.slice a6 n6 c6) < names.length - lenV (.slice a4 n4 c4) from by
        have e4 : n4 = ord.length := by
          obtain ⟨a', c', e', _⟩ := HP.out.own.sts
          injection e'
        have hll := Hk.out
        have htt := Htot.out
        simp only [lenV]
        rw [hlen6, e4, List.length_append]
        simp; omega)
      clear hlen6 c57 f57
      refine (hP2.calls HVF.out HBE.out HKS.out).mono ?_
      rintro e w8 ⟨rfl, hP3⟩
      have HP3 := Lib.hid hP3
      clear hP2 hP3
      go_wp2_with fail
      go_roundw
      case rel => exact ⟨_, _, _, HP3.out, rfl⟩
      case measure => exact HM.out
end Go.Proofs.Ytnjabanjgckeoaa
