/- Texts one behind the other, each in a section of its own: what calls make of memory, step by step. -/
import Derived.Test.YtnjabanjgckeoaaGreatDoorPackMgrRetries15
import Derived.Lib.OwnBridge
import Derived.Deep.QuietTactic
import Derived.BigQuiet

/- place: units are placed, again and again the least one that may be. -/
section
namespace Go.Proofs.YtnjabanjgckeoaaGreatDoor
open Go.RowKit
open Go.ChangeMaps (setBlock)
set_option linter.unusedVariables false
set_option linter.unusedSimpArgs false
set_option maxRecDepth 100000

theorem run_store_func {P : Program} {w : World} {a : Addr} {m : Mode} (f : Fn) (bd lb : Array Value) : (store a (.func f bd lb) m).run P w = stored P w a (.func f bd lb) m := run_store P w a _ m rfl
attribute [local go_sem] run_store_func
theorem run_load_at {P : Program} {w : World} {a : Addr} {v : Value} (h : w.cell? a = some v) : (load a).run P w = .ok v w := by
  simp [load, Sem.run, h]
/-- A result in a slot, and one in a variable of one cell. -/
theorem ret_tmp_cell1 {P : Program} {fn : Func} {p q : Tmp} {ty : TypeId} (h : fn.results = #[.tmp p, .cell q ty]) {tmps : Array Value} {w : World} {b : Nat} {v x : Value} (hp : tmps.getD p undef = x) (hq : tmps.getD q undef = .pointer (some ⟨b, 0, none⟩))
    (hr : w.cell? ⟨b, 0, none⟩ = some v) (ha : (isAgg ty).run P w = .ok false w) : (results fn tmps).run P w = .ok (.tuple #[x, v]) w := by
  have e : (asAddr (.pointer (some ⟨b, 0, none⟩))).run P w = .ok ⟨b, 0, none⟩ w := rfl
  have hp' : tmps[p]?.getD undef = x := by simpa using hp
  have hq' : tmps[q]?.getD undef = .pointer (some ⟨b, 0, none⟩) := by simpa using hq
  have hl : (loadVar ty ⟨b, 0, none⟩).run P w = .ok v w := by
    unfold loadVar
    simp [Sem.run_bind, ha, Result.andThen, run_load_at hr]
  simp only [results, h]
  simp [Sem.run_bind, Result.andThen, hp', hq', e, hl]
/-- A variable of one cell. -/
abbrev rowV1 (T b : Nat) (v : Value) : Rw := ⟨T, 1, .slice (some ⟨b, 0, none⟩) 1 1, 1, [v]⟩
def lenV : Value → Nat
  | .slice _ n _ => n
  | _ => 0
theorem placeN_none {beh : Nm → List Nm} {f : Nat} {ord left : List Nm} (h : left.findIdx? (freeN beh left) = none) : placeN beh f ord left = (ord, left) := by
  cases f with
  | zero => rfl
  | succ f => rw [placeN, h]
theorem placeN_some {beh : Nm → List Nm} {ord left : List Nm} {k : Nat} (hk : k < left.length) (h : left.findIdx? (freeN beh left) = some k) : placeN beh left.length ord left = placeN beh (left.eraseIdx k).length (ord ++ [left[k]]) (left.eraseIdx k) := by
  have e : left.length = (left.eraseIdx k).length + 1 := by rw [List.length_eraseIdx, if_pos hk]; omega
  conv => lhs; rw [e, placeN, h]
  show placeN beh _ (ord ++ [left.getD k []]) _ = _
  rw [show left.getD k [] = left[k] by rw [List.getD, List.getElem?_eq_getElem hk]; rfl]
structure PlSt (W0 : Base) (L : List Rw) (beh : Nm → List Nm) (names : List Nm) (b2 g : Nat) (vf : Value) (ord left : List Nm) (v4 v5 : Value) (w : World) : Prop where
  own : Own W0 w (rowSs v4 ord :: rowSs v5 left :: rowV1 29 (b2 + 1) v5 :: rowV1 134 (b2 + 1 + 1) vf :: rowV1 51 b2 (.pointer (some ⟨g, 0, none⟩)) :: L)
  sub : ∀ x ∈ left, x ∈ names
  tot : ord.length + left.length = names.length
  goes : placeN beh left.length ord left = placeN beh names.length [] names
theorem PlSt.calls {W0 : Base} {L : List Rw} {beh : Nm → List Nm} {names ks : List Nm} {b2 g bb : Nat} {vf : Value} {ord left : List Nm} {v4 v5 : Value} {w : World} (h : PlSt W0 L beh names b2 g vf ord left v4 v5 w) (hvf : vf = .func (.func 96) #[] #[.pointer (some ⟨b2 + 1, 0, none⟩)])
    (hbe : ∀ w', Own W0 w' L → BeAt w' g bb ks beh) (hks : ∀ x ∈ names, x ∈ ks) :
    Calls Tryz.prog 56 #[v5, .func (.func 97) #[] #[.pointer (some ⟨b2, 0, none⟩), .pointer (some ⟨b2 + 1 + 1, 0, none⟩)]] w fun e w' => e = .returned (.int .i64 (idxF (freeN beh left) left)) ∧ PlSt W0 L beh names b2 g vf ord left v4 v5 w' := by
  have hO := h.own
  have c5 : w.cell? ⟨b2 + 1, 0, none⟩ = some v5 := hO.third.cell 0 (by decide)
  have c6 : w.cell? ⟨b2 + 1 + 1, 0, none⟩ = some vf := hO.fourth.cell 0 (by decide)
  have c2 : w.cell? ⟨b2, 0, none⟩ = some (.pointer (some ⟨g, 0, none⟩)) := hO.fifth.cell 0 (by decide)
  have hs := hO.swap.sts
  have hL : Own W0 w L := hO.tail.tail.tail.tail.tail
  refine (index_lb 97 #[.pointer (some ⟨b2, 0, none⟩), .pointer (some ⟨b2 + 1 + 1, 0, none⟩)] (freeN beh left) (enters_of Tryz.func97 (by kernel_rfl) rfl) v5 left w hs (fun W x hx hb => ?_)).mono ?_
  · have l2 := World.block_lt_of_cell? w ⟨b2, 0, none⟩ c2
    have l5 := World.block_lt_of_cell? w ⟨b2 + 1, 0, none⟩ c5
    have l6 := World.block_lt_of_cell? w ⟨b2 + 1 + 1, 0, none⟩ c6
    exact free_any (hbe W (hL.later hb)) ((hb.cell (p := ⟨b2, 0, none⟩) l2).trans c2) ((hb.cell (p := ⟨b2 + 1 + 1, 0, none⟩) l6).trans (hvf ▸ c6)) ((hb.cell (p := ⟨b2 + 1, 0, none⟩) l5).trans c5) (hs.later hb) x (hks x (h.sub x hx))
  · rintro e w' ⟨rfl, hb⟩
    exact ⟨rfl, hO.later hb, h.sub, h.tot, h.goes⟩
set_option maxHeartbeats 4000000 in
theorem placeG_any {W0 : Base} {w : World} {L : List Rw} {g bb : Nat} {ks names : List Nm} {beh : Nm → List Nm} {v : Value} (h : Own W0 w (rowSs v names :: L)) (hbe : ∀ w', Own W0 w' L → BeAt w' g bb ks beh) (hks : ∀ x ∈ names, x ∈ ks) (hlen : names.length ≤ 1000) :
    Calls Tryz.prog 59 #[.pointer (some ⟨g, 0, none⟩), v] w fun e w' => ∃ v1 v2, e = .returned (.tuple #[v1, v2]) ∧ Own W0 w' (rowSs v1 (placeN beh names.length [] names).1 :: rowSs v2 (placeN beh names.length [] names).2 :: L) := by
  obtain ⟨i0, hi, hz0, hz1, hz2⟩ := infoS_ex
  obtain ⟨a, m, c, rfl⟩ := h.sts.shape
  have O1 := h.made_at 51 1 #[.pointer (some ⟨g, 0, none⟩)] 1 w.heap.size rfl rfl (by unfold maxLen; decide)
  have O2 := O1.made_at 29 1 #[.slice a m c] 1 (w.heap.size + 1) (by simp) rfl (by unfold maxLen; decide)
  have O3 := O2.made_at 134 1 #[(.func (.func 96) #[] #[.pointer (some ⟨w.heap.size + 1, 0, none⟩)])] 1 (w.heap.size + 1 + 1) (by simp) rfl (by unfold maxLen; decide)
  obtain ⟨W3, hW3⟩ : ∃ W3, W3 = (((w.alloc (.cells #[.pointer (some ⟨g, 0, none⟩)] 51)).alloc (.cells #[.slice a m c] 29)).alloc (.cells #[(.func (.func 96) #[] #[.pointer (some ⟨w.heap.size + 1, 0, none⟩)])] 134)) := ⟨_, rfl⟩
  rw [← hW3] at O3
  have hst : PlSt W0 L beh names w.heap.size g (.func (.func 96) #[] #[.pointer (some ⟨w.heap.size + 1, 0, none⟩)]) [] names (.slice none 0 0) (.slice a m c) W3 := by
    refine ⟨Own.nil (O3.fourth.perm ((List.Perm.swap _ _ _).cons _)) 9 1, fun x hx => hx, by simp, rfl⟩
  have HST := Lib.hid hst
  have HW3 := Lib.hid hW3
  have HBE := Lib.hid hbe
  have HKS := Lib.hid hks
  clear O1 O2 O3 hst h hW3 hbe hks
  go_enter Tryz.func59, Tryz.ntmps59
  go_upto_region 4 with fail
  rw [← HW3.out]
  have k0 := HST.out.calls rfl HBE.out HKS.out
  have c5 : W3.cell? ⟨w.heap.size + 1, 0, none⟩ = some (.slice a m c) := HST.out.own.third.cell 0 (by decide)
  clear HW3
  generalize hvf : Value.func (.func 96) #[] #[.pointer (some ⟨w.heap.size + 1, 0, none⟩)] = vf at k0 HST
  have HVF := Lib.hid hvf.symm
  clear hvf
  generalize w.heap.size = b2 at *
  go_wp2_with (go_at_call 56; refine k0.mono ?_; rintro e w4 ⟨rfl, hP⟩; have HP := Lib.hid hP; clear hP c5)
  go_loopw [4, 8] (fun s4 s8 wr => ∃ ord left v5, PlSt W0 L beh names b2 g vf ord left s4 v5 wr ∧ s8 = .int .i64 (idxF (freeN beh left) left)) (fun s4 _ _ => names.length - lenV s4)
  case atStart => exact ⟨_, _, _, HP.out, rfl⟩
  case round =>
    obtain ⟨ord, left, v5, hP, rfl⟩ := hrel
    have hO := hP.own
    have c5 : wr.cell? ⟨b2 + 1, 0, none⟩ = some v5 := hO.third.cell 0 (by decide)
    have f5 : wr.frozen? ⟨b2 + 1, 0, none⟩ = false := hO.third.free 0
    obtain ⟨a4, n4, c4, hv4⟩ := hO.sts.shape
    subst hv4
    rcases idxF_cases (freeN beh left) left with ⟨e1, e2, e3⟩ | ⟨k, hk, e1, e2, e3, _⟩
    · rw [e2]
      have hg := hP.goes
      rw [placeN_none e1] at hg
      obtain ⟨a5, n5, c5', hv5⟩ := hO.swap.sts.shape
      subst hv5
      have HO := Lib.hid hO
      have HG := Lib.hid hg
      clear hP hO hg e1 e2 e3
      go_wp2_with fail
      go_region
      have hO9 := (HO.out.third.set 0 (.slice a5 n5 c5')).drew
      have cR : (wr.setCell ⟨b2 + 1, 0, none⟩ (.slice a5 n5 c5')).drew.cell? ⟨b2 + 1, 0, none⟩ = some (.slice a5 n5 c5') := hO9.cell 0 (by decide)
      have HO9 := Lib.hid hO9
      clear hO9 c5 f5
      generalize (wr.setCell ⟨b2 + 1, 0, none⟩ (.slice a5 n5 c5')).drew = w9 at *
      go_wp2_with fail
      refine bodyPost_ret (v := .tuple #[.slice a4 n4 c4, .slice a5 n5 c5']) (ret_tmp_cell1 Tryz.results59 rfl rfl cR (Tryz.isAgg29 _)) rfl ?_
      refine ⟨_, _, rfl, ?_⟩
      rw [← HG.out]
      have h1 := HO9.out.tail
      have h2 : Own W0 w9 (rowV1 134 (b2 + 1 + 1) vf :: rowV1 51 b2 (.pointer (some ⟨g, 0, none⟩)) :: rowSs (.slice a4 n4 c4) ord :: rowSs (.slice a5 n5 c5') left :: L) := h1.perm (by
        have e1 := (List.Perm.swap (rowV1 134 (b2 + 1 + 1) vf) (rowSs (.slice a5 n5 c5') left) (rowV1 51 b2 (.pointer (some ⟨g, 0, none⟩)) :: L)).cons (rowSs (.slice a4 n4 c4) ord)
        have e2 := List.Perm.swap (rowV1 134 (b2 + 1 + 1) vf) (rowSs (.slice a4 n4 c4) ord) (rowSs (.slice a5 n5 c5') left :: rowV1 51 b2 (.pointer (some ⟨g, 0, none⟩)) :: L)
        have e3 := ((List.Perm.swap (rowV1 51 b2 (.pointer (some ⟨g, 0, none⟩))) (rowSs (.slice a5 n5 c5') left) L).cons (rowSs (.slice a4 n4 c4) ord)).cons (rowV1 134 (b2 + 1 + 1) vf)
        have e4 := (List.Perm.swap (rowV1 51 b2 (.pointer (some ⟨g, 0, none⟩))) (rowSs (.slice a4 n4 c4) ord) (rowSs (.slice a5 n5 c5') left :: L)).cons (rowV1 134 (b2 + 1 + 1) vf)
        exact e1.trans (e2.trans (e3.trans e4)))
      exact h2.tail.tail
    · rw [e2]
      have hnk : 0 ≤ (k : Int) := by omega
      obtain ⟨g5, c5', hv5, hg1, hg2, hg3, hg4⟩ := hO.swap.form (by omega)
      subst hv5
      have ck : wr.cell? ⟨g5, k, none⟩ = some (.string (toB left[k])) := Own.str hO.swap k hk
      have hlt : (k : Int) < (left.length : Int) := by omega
      have hgo := hP.goes
      rw [placeN_some hk e1] at hgo
      have HP := Lib.hid hP
      have HGO := Lib.hid hgo
      have htot := hP.tot
      have HO4 := Lib.hid (hO.alloc (.cells #[.string (toB left[k])] 9))
      have Hsrc := Lib.hid (src_one wr (.string (toB left[k])) 9 rfl)
      have Hb1 := Lib.hid (show ord.length + 1 ≤ maxLen from by unfold maxLen; omega)
      have Hb2 := Lib.hid (show (ord.length + 1) * 16 ≤ 140737488355328 from by omega)
      have Hk := Lib.hid hk
      have Htot := Lib.hid htot
      generalize hx : left[k] = x at *
      have Hx := Lib.hid hx
      obtain ⟨nl, hnl⟩ : ∃ nl, left.length = nl := ⟨_, rfl⟩
      rw [hnl] at hlt c5
      have hn1 : (nl : Int) ≤ 1000 := by omega
      have Hnl := Lib.hid hnl
      clear hP hO hgo htot e1 e2 e3 hx hnl hg1 hg2 hg3 hg4 hk
      go_wp2_with (at_builtin; refine wpList_append_src rfl (.tmp 20) (.tmp 25) 29 rfl (.slice a4 n4 c4) ord.length (strs ord) (.slice (some ⟨wr.heap.size, 0, none⟩) 1 1) 1 [.string (toB x)] rfl rfl HO4.out i0 (.string ⟨#[]⟩) 16 Tryz.underlying29 hi hz0 hz1 hz2 rfl (by decide) Hsrc.out (by simp) Hb1.out Hb2.out ?_)
      intro v4 w4 hO5
      have hO6 : Own W0 w4 (rowSs v4 (ord ++ [x]) :: rowSs (.slice (some ⟨g5, 0, none⟩) left.length c5') left :: rowV1 29 (b2 + 1) (.slice (some ⟨g5, 0, none⟩) left.length c5') :: rowV1 134 (b2 + 1 + 1) vf :: rowV1 51 b2 (.pointer (some ⟨g, 0, none⟩)) :: L) := by
        show Own W0 w4 (⟨9, 1, v4, (ord ++ [x]).length, strs (ord ++ [x])⟩ :: _)
        rw [List.length_append, show strs (ord ++ [x]) = strs ord ++ [.string (toB x)] from by simp [strs]]
        exact hO5
      have c5 : w4.cell? ⟨b2 + 1, 0, none⟩ = some (.slice (some ⟨g5, 0, none⟩) left.length c5') := hO6.third.cell 0 (by decide)
      have kd := delS_row hO6.swap k Hk.out (by have := Htot.out; omega)
      rw [Hnl.out] at c5 kd
      obtain ⟨a6, n6, c6, hv6⟩ := hO6.sts.shape
      subst hv6
      clear hO5 hO6
      go_wp2_with (go_at_call 98; refine kd.mono ?_; rintro e w7 ⟨v7, rfl, hO7⟩; obtain ⟨a7, n7, c7, hv7⟩ := hO7.sts.shape; subst hv7; have c57 : w7.cell? ⟨b2 + 1, 0, none⟩ = _ := hO7.third.cell 0 (by decide); have f57 : w7.frozen? ⟨b2 + 1, 0, none⟩ = false := hO7.third.free 0; have HO7 := Lib.hid hO7; clear hO7)
      have hP2 : PlSt W0 L beh names b2 g vf (ord ++ [x]) (left.eraseIdx k) (.slice a6 n6 c6) (.slice a7 n7 c7) (w7.setCell ⟨b2 + 1, 0, none⟩ (.slice a7 n7 c7)) := by
        have hel : (left.eraseIdx k).length = left.length - 1 := by rw [List.length_eraseIdx, if_pos Hk.out]
        have hll := Hk.out
        have htt := Htot.out
        refine ⟨(HO7.out.third.set 0 (.slice a7 n7 c7)).perm (List.Perm.trans (List.Perm.swap _ _ _) ((List.Perm.swap _ _ _).cons _) |>.trans (List.Perm.swap _ _ _)), fun y hy => HP.out.sub y (List.mem_of_mem_eraseIdx hy), by rw [hel, List.length_append]; simp; omega, HGO.out⟩
      have hlen6 : n6 = (ord ++ [x]).length := by
        obtain ⟨a', c', e', _⟩ := hP2.own.sts
        injection e'
      have HM := Lib.hid (show names.length - lenV (.slice a6 n6 c6) < names.length - lenV (.slice a4 n4 c4) from by
        have e4 : n4 = ord.length := by
          obtain ⟨a', c', e', _⟩ := HP.out.own.sts
          injection e'
        have hll := Hk.out
        have htt := Htot.out
        simp only [lenV]
        rw [hlen6, e4, List.length_append]
        simp; omega)
      clear hlen6 c57 f57
      refine (hP2.calls HVF.out HBE.out HKS.out).mono ?_
      rintro e w8 ⟨rfl, hP3⟩
      have HP3 := Lib.hid hP3
      clear hP2 hP3
      go_wp2_with fail
      go_roundw
      case rel => exact ⟨_, _, _, HP3.out, rfl⟩
      case measure => exact HM.out
end Go.Proofs.YtnjabanjgckeoaaGreatDoor
end

/- Names. -/
section
namespace Go.Proofs.YtnjabanjgckeoaaGreatDoor
open Go.RowKit Go.Maps Go.Shelf
open Go.ChangeMaps (setBlock)
open Go.WideElems (Fit rd rg)
set_option linter.unusedVariables false
set_option linter.unusedSimpArgs false
set_option maxRecDepth 100000

abbrev noRG : Value → Option (DataW Unit × List MemPlace) := fun _ => some (.nil, [])
def sOfG (v : Value) : List UInt8 := match v with
  | .string s => s.data.toList
  | _ => []
theorem owns_ofG {w : World} {b : Nat} {o : Obj} {ents : List (Nm × Value)} (h : MapO keyN o ents) (hb : w.heap[b]? = some o) (hd : (ents.map (·.1)).Nodup) (hs : ∀ p ∈ ents, p.1.length ≤ maxLen) (hn : ents.length ≤ maxLen) :
    ∃ D0 : DataW Unit, w.ownsMap Tryz.prog 9 noRG b ents.length D0 ∧ (strKeys D0).Perm (ents.map (·.1)) ∧ Maps.size D0 = ents.length := by
  obtain ⟨es, clock, rfl, h1, h2, h3⟩ := h
  have hk : es.toList.map (·.key) = ents.map fun p => keyN p.1 := by
    have := congrArg (List.map (·.1)) h1
    rw [List.map_map, List.map_map] at this
    rw [show es.toList.map (·.key) = es.toList.map ((fun p : Value × Value => p.1) ∘ fun e => (e.key, e.val)) from rfl, this]
    rfl
  have hsz : es.size = ents.length := by
    have := congrArg List.length hk
    simpa using this
  have hkey : ∀ x ∈ es.toList, ∃ s : ByteArray, x.key = .string s ∧ s.size ≤ maxLen := fun x hx => by
    have : x.key ∈ ents.map fun p => keyN p.1 := by rw [← hk]; exact List.mem_map.2 ⟨x, hx, rfl⟩
    obtain ⟨p, hp, e⟩ := List.mem_map.1 this
    exact ⟨toB p.1, e.symm, by rw [toB_size]; exact hs p hp⟩
  have hrd : ∀ x ∈ es.toList, rd Tryz.prog 9 noRG x = some (.string (sOfG x.key), .nil) := fun x hx => by
    obtain ⟨s, e, hs⟩ := hkey x hx
    unfold rd
    rw [e, Go.WideMaps.keyOf_string_mk Tryz.underlying9 hs]; rfl
  refine ⟨_, ⟨es, clock, hb, ⟨by omega, ⟨h3, h2, ?_⟩, fun x hx => ⟨_, hrd x hx⟩⟩, by omega, rfl⟩, ?_, ?_⟩
  · rw [hk]
    have : (ents.map fun p => keyN p.1) = (ents.map (·.1)).map keyN := by rw [List.map_map]; rfl
    rw [this]
    exact hd.map (f := keyN) (fun a b hne e => hne (by injection e with e; exact toB_inj e))
  · have hp := (Go.WideShapes.sorted_perm (es.toList.map (rg Tryz.prog 9 noRG))).map (fun p => strOf p.1)
    refine List.Perm.trans hp ?_
    rw [List.map_map]
    have e1 : es.toList.map ((fun p : Lit × DataW Unit => strOf p.1) ∘ rg Tryz.prog 9 noRG) = es.toList.map fun x => sOfG x.key := List.map_congr_left fun x hx => by
      simp only [Function.comp, rg, hrd x hx]; rfl
    rw [e1, show (es.toList.map fun x => sOfG x.key) = (es.toList.map (·.key)).map sOfG by rw [List.map_map]; rfl, hk, List.map_map]
    have e2 : (sOfG ∘ fun p : Nm × Value => keyN p.1) = fun p : Nm × Value => p.1 := by
      funext p
      rfl
    rw [e2]
  · rw [Maps.size_eq, Go.length_sorted, List.length_map]
    simpa using hsz
theorem Own.ofRow {w w' : World} {v : Value} {ls : List Nm} (h : w'.ownsRow w.heap.size 9 1 v ls.length (strs ls)) (hb : Below w.heap.size w w') : Own w w' [rowSs v ls] :=
  ⟨hb, (fun p hp => by rw [List.mem_singleton.1 hp]; exact h), List.pairwise_singleton .., (fun m hm => by cases hm), (fun m hm => by cases hm)⟩
set_option maxHeartbeats 2000000 in
theorem names_any {w : World} {g bu : Nat} {xs : List UV} {us : List GU} (h : UsAt w g bu xs us) (hd : (namesU us).Nodup) (hlen : us.length ≤ 1000) (hs : ∀ n ∈ namesU us, n.length ≤ 1000000) :
    Calls Tryz.prog 42 #[.pointer (some ⟨g, 0, none⟩)] w fun e w' => ∃ v, e = .returned v ∧ Own w w' [rowSs v (sortN (namesU us))] := by
  have hc := h.cell
  obtain ⟨o, h1, h2⟩ := h.map
  have hk : (entsU xs).map (·.1) = namesU us := by rw [← h.units.names]; unfold entsU; rw [List.map_map]; rfl
  have hel : (entsU xs).length = us.length := by unfold entsU; rw [List.length_map]; exact h.units.len
  obtain ⟨D0, hown, hperm, hsz0⟩ := owns_ofG h2 h1 (by rw [hk]; exact hd) (fun p hp => by
    have := hs p.1 (by rw [← hk]; exact List.mem_map.2 ⟨p, hp, rfl⟩)
    unfold maxLen; omega) (by rw [hel]; unfold maxLen; omega)
  have hml : us.length ≤ maxLen := by unfold maxLen; omega
  have hby : us.length * 16 ≤ 140737488355328 := by omega
  rw [hel] at hown hsz0
  rw [hk] at hperm
  clear h h1 h2 hk hel hs
  refine (callsIn_wide (n := 6)).1 ?_
  have hfK : Fence.wide.fn 79 := trivial
  have hfS : Fence.wide.fn 78 := trivial
  refine callsIn_of_wp Tryz.func42 rfl trivial ?_ rfl
  simp only [Tryz.ntmps42, List.size_toArray, List.length_cons, List.length_nil, Nat.reduceAdd, Nat.reduceSub, Array.replicate_succ, Array.replicate_zero, List.push_toArray, List.append_toArray, List.nil_append, List.cons_append]
  gi_wp2_with (first
    | (gi_at_call 79; refine (Tryz.maps_Keys_79 _ _).mono ?_; rintro e w' ⟨rfl, rfl⟩)
    | (gi_at_call 78; refine (Tryz.slices_Sorted_keys_78_79 bu us.length D0 noRG w hown (by rw [hsz0]; exact hml) (by rw [hsz0]; exact hby)).mono ?_; rintro e w' ⟨v, ss, rfl, hS, hrow, hnil, hb⟩))
  have hle : w.heap.size ≤ (w.alloc (.cells #[.map (some bu)] 130)).heap.size := by simp
  have hss : sortN ss = sortN (namesU us) := sortN_eq (hS.trans hperm)
  rw [merge_sortN, hss] at hrow
  have hll : ss.length = (sortN (namesU us)).length := by rw [sortN_length]; exact (hS.trans hperm).length_eq
  rw [hll] at hrow
  go_ret
  exact ⟨v, rfl, Own.ofRow (ownsRow_base hrow hle) (((Below.refl _ _).alloc (Nat.le_refl _) _).trans (hb.mono hle))⟩
end Go.Proofs.YtnjabanjgckeoaaGreatDoor
end

/- A graph that is made; Order, Behind, Get. -/
section
namespace Go.Proofs.YtnjabanjgckeoaaGreatDoor
open Go.RowKit
open Go.ChangeMaps (setBlock)
set_option linter.unusedVariables false
set_option linter.unusedSimpArgs false
set_option maxRecDepth 100000

/-- A graph of these units, placed in this order. -/
structure GAt (w : World) (g : Nat) (us : List GU) (ord : List Nm) : Prop where
  uni : ∃ bu xs, UsAt w g bu xs us
  beh : ∃ bb, BeAt w g bb (namesU us) (aheadU us)
  at2 : ∃ vo, w.cell? ⟨g, 2, none⟩ = some vo ∧ Sts w vo ord
  once : (namesU us).Nodup
  few : us.length ≤ 1000
  short : ∀ n ∈ namesU us, n.length ≤ 1000000
  bnd : ∀ u ∈ us, Bnd u
  olen : ord.length ≤ 1000
  perm : ord.Perm (namesU us)
  req : ∀ u ∈ us, ∀ y, (y ∈ u.re ∨ y ∈ u.pa) → y ∈ namesU us
theorem GAt.later {w w' : World} {g : Nat} {us : List GU} {ord : List Nm} (h : GAt w g us ord) (hb : Below w.heap.size w w') : GAt w' g us ord := by
  obtain ⟨bu, xs, h1⟩ := h.uni
  obtain ⟨bb, h2⟩ := h.beh
  obtain ⟨vo, h3, h4⟩ := h.at2
  exact { h with uni := ⟨bu, xs, h1.later hb⟩, beh := ⟨bb, h2.later hb⟩, at2 := ⟨vo, (hb.cell (p := ⟨g, 2, none⟩) (World.block_lt_of_cell? w ⟨g, 2, none⟩ h3)).trans h3, h4.later hb⟩ }
def pick (ord som : List Nm) : List Nm := ord.filter fun n => decide (n ∈ som)
end Go.Proofs.YtnjabanjgckeoaaGreatDoor
end

/- What leans, as a list that grows: plain. -/
section
namespace Go.Proofs.YtnjabanjgckeoaaGreatDoor
open Go.RowKit
open Go.ChangeMaps (setBlock)
set_option linter.unusedVariables false
set_option linter.unusedSimpArgs false
set_option maxRecDepth 100000

structure LnInv (us : List GU) (som l : List Nm) (k : Nat) : Prop where
  once : l.Nodup
  sub : ∀ x ∈ l, LeanR us som x
  base : ∀ n ∈ namesU us, n ∈ som → n ∈ l
  cl : ∀ j (hj : j < l.length), j < k → ∀ u ∈ us, (l[j] ∈ u.re ∨ l[j] ∈ u.pa) → u.name ∈ l
def LeRel (w : World) (bu : Nat) (xs : List UV) (us : List GU) (som : List Nm) (r k : Nat) (x : Nm) (v : Value) (wr : World) : Prop :=
  ∃ oi o done left l, GW w r bu xs oi o done left wr ∧ Own ⟨w, [(r, oi)]⟩ wr [rowSs v l] ∧ LnInv us som l k ∧ l[k]? = some x ∧ ∀ p ∈ done, (x ∈ (findU us p.name).re ∨ x ∈ (findU us p.name).pa) → p.name ∈ l
end Go.Proofs.YtnjabanjgckeoaaGreatDoor
end

/- Lean: those that lean on some. -/
section
namespace Go.Proofs.YtnjabanjgckeoaaGreatDoor
open Go.RowKit
open Go.ChangeMaps (setBlock)
set_option linter.unusedVariables false
set_option linter.unusedSimpArgs false
set_option maxRecDepth 100000

end Go.Proofs.YtnjabanjgckeoaaGreatDoor
end

/- Pull: some, and all that they require. -/
section
namespace Go.Proofs.YtnjabanjgckeoaaGreatDoor
open Go.RowKit
open Go.ChangeMaps (setBlock)
set_option linter.unusedVariables false
set_option linter.unusedSimpArgs false
set_option maxRecDepth 100000

structure PlInv (us : List GU) (som l : List Nm) (k : Nat) : Prop where
  once : l.Nodup
  sub : ∀ x ∈ l, PullR us som x
  there : ∀ x ∈ l, x ∈ namesU us
  base : ∀ n ∈ namesU us, n ∈ som → n ∈ l
  cl : ∀ j (hj : j < l.length), j < k → ∀ y ∈ (findU us l[j]).re, y ∈ l
end Go.Proofs.YtnjabanjgckeoaaGreatDoor
end

/- New, its parts: units that are handed in, rows of many units, maps that grow by new keys. -/
section
namespace Go.Proofs.YtnjabanjgckeoaaGreatDoor
open Go.RowKit
open Go.ChangeMaps (setBlock)
set_option linter.unusedVariables false
set_option linter.unusedSimpArgs false
set_option maxRecDepth 100000

/-- Each list is nil, or somewhere. -/
def UV.nilOk (x : UV) : Prop := ∀ v ∈ [x.v1, x.v2, x.v3, x.v4, x.v5, x.v6], v = .slice none 0 0 ∨ ∃ a n c, v = .slice (some a) n c
/-- A slice that reads as these units. -/
def UArg (w : World) (v : Value) (us : List GU) : Prop := ∃ a c xs, v = .slice a us.length c ∧ Units w xs us ∧ ∀ i (h : i < xs.length), (∃ b o, a = some ⟨b, o, none⟩ ∧ w.rangeAt b (o + i * 8) xs[i].cells) ∧ xs[i].nilOk
theorem Units.at {w : World} {xs : List UV} {us : List GU} (h : Units w xs us) : ∀ (i : Nat) (hi : i < xs.length) (hi2 : i < us.length), UVIs w xs[i] us[i] := by
  induction h with
  | nil => intro i hi; exact absurd hi (Nat.not_lt_zero _)
  | cons h1 _ ih =>
    intro i hi hi2
    cases i with
    | zero => exact h1
    | succ i => exact ih i (by simpa using hi) (by simpa using hi2)
/-- The rows of many units. -/
def rowsAll : List UV → List GU → List Rw
  | y :: ys, u :: us => rows6 y u ++ rowsAll ys us
  | _, _ => []
theorem rowsAll_snoc : ∀ (ys : List UV) (us : List GU) (y : UV) (u : GU), ys.length = us.length → rowsAll (ys ++ [y]) (us ++ [u]) = rowsAll ys us ++ rows6 y u := by
  intro ys
  induction ys with
  | nil => intro us y u h; cases us with | nil => simp [rowsAll] | cons a r => simp at h
  | cons a r ih =>
    intro us y u h
    cases us with
    | nil => simp at h
    | cons b s =>
      simp only [List.cons_append, rowsAll]
      rw [ih s y u (by simpa using h), List.append_assoc]
theorem Own.stsMem {W0 : Base} {w : World} {L : List Rw} {v : Value} {ls : List Nm} (h : Own W0 w L) (hm : rowSs v ls ∈ L) : Sts w v ls := by
  obtain ⟨A, B, e⟩ := List.append_of_mem hm
  rw [e] at h
  exact (h.perm List.perm_middle).sts
/-- Values that have these units' names and numbers. -/
inductive Like : List UV → List GU → Prop
  | nil : Like [] []
  | cons {y : UV} {u : GU} {ys : List UV} {us : List GU} : y.name = u.name → y.ret = u.ret → Like ys us → Like (y :: ys) (u :: us)
theorem Like.len {ys : List UV} {us : List GU} (h : Like ys us) : ys.length = us.length := by
  induction h with
  | nil => rfl
  | cons _ _ _ ih => simp [ih]
theorem Like.snoc {ys : List UV} {us : List GU} (h : Like ys us) {y : UV} {u : GU} (h1 : y.name = u.name) (h2 : y.ret = u.ret) : Like (ys ++ [y]) (us ++ [u]) := by
  induction h with
  | nil => exact .cons h1 h2 .nil
  | cons a b _ ih => exact .cons a b ih
theorem Like.names {ys : List UV} {us : List GU} (h : Like ys us) : ys.map (·.name) = namesU us := by
  induction h with
  | nil => rfl
  | cons a _ _ ih => simp [namesU, a] at ih ⊢; exact ih
theorem Like.units {W0 : Base} {w : World} {L : List Rw} (hO : Own W0 w L) {ys : List UV} {us : List GU} (h : Like ys us) (hs : ∀ r ∈ rowsAll ys us, r ∈ L) : Units w ys us := by
  induction h with
  | nil => exact .nil
  | @cons y u ys us a b _ ih =>
    have h6 : ∀ r ∈ rows6 y u, r ∈ L := fun r hr => hs r (List.mem_append_left _ hr)
    exact .cons ⟨a, b, hO.stsMem (h6 _ (by simp [rows6])), hO.stsMem (h6 _ (by simp [rows6])), hO.stsMem (h6 _ (by simp [rows6])), hO.stsMem (h6 _ (by simp [rows6])), hO.stsMem (h6 _ (by simp [rows6])), hO.stsMem (h6 _ (by simp [rows6]))⟩ (ih fun r hr => hs r (List.mem_append_right _ hr))
theorem putG_fresh {α β : Type} [DecidableEq α] {m : List (α × β)} {a : α} (h : a ∉ m.map (·.1)) (v : β) : put m a v = m ++ [(a, v)] := by
  induction m with
  | nil => rfl
  | cons p r ih =>
    simp only [List.map_cons, List.mem_cons, not_or] at h
    unfold put
    rw [if_neg (fun e => h.1 e.symm), ih h.2]; rfl
/-- What stands behind, as rows; as a map's entries. -/
def rowsB (us : List GU) : List Value → List Nm → List Rw
  | z :: zs, n :: ns => rowSs z (aheadU us n) :: rowsB us zs ns
  | _, _ => []
theorem rowsB_snoc (us : List GU) : ∀ (zs : List Value) (ns : List Nm) (z : Value) (n : Nm), zs.length = ns.length → rowsB us (zs ++ [z]) (ns ++ [n]) = rowsB us zs ns ++ [rowSs z (aheadU us n)] := by
  intro zs
  induction zs with
  | nil => intro ns z n h; cases ns with | nil => rfl | cons a r => simp at h
  | cons a r ih =>
    intro ns z n h
    cases ns with
    | nil => simp at h
    | cons b s =>
      simp only [List.cons_append, rowsB]
      rw [ih s z n (by simpa using h)]
def entsB (zs : List Value) (ns : List Nm) : List (Nm × Value) := ns.zip zs
theorem look_zip {ns : List Nm} {zs : List Value} (hl : zs.length = ns.length) (n : Nm) : (n ∉ ns → look (entsB zs ns) n = none) ∧ (n ∈ ns → ∃ z, look (entsB zs ns) n = some z ∧ ∀ us, rowSs z (aheadU us n) ∈ rowsB us zs ns) := by
  unfold entsB
  induction ns generalizing zs with
  | nil => exact ⟨fun _ => rfl, fun h => by cases h⟩
  | cons m r ih =>
    cases zs with
    | nil => simp at hl
    | cons z zs =>
      obtain ⟨i1, i2⟩ := ih (zs := zs) (by simpa using hl)
      by_cases hm : m = n
      · subst hm
        refine ⟨fun h => absurd (List.mem_cons_self ..) h, fun _ => ⟨z, ?_, fun us => List.mem_cons_self ..⟩⟩
        simp [List.zip, look]
      · have e : look ((m :: r).zip (z :: zs)) n = look (r.zip zs) n := by
          rw [List.zip_cons_cons]; conv => lhs; unfold look; rw [if_neg hm]
        rw [e]
        refine ⟨fun h => i1 fun h' => h (List.mem_cons_of_mem _ h'), fun h => ?_⟩
        rcases List.mem_cons.1 h with h | h
        · exact absurd h.symm hm
        · obtain ⟨z', h1, h2⟩ := i2 h
          exact ⟨z', h1, fun us => List.mem_cons_of_mem _ (h2 us)⟩
theorem entsB_snoc {zs : List Value} {ns : List Nm} (hl : zs.length = ns.length) (z : Value) (n : Nm) : entsB (zs ++ [z]) (ns ++ [n]) = entsB zs ns ++ [(n, z)] := by
  unfold entsB
  rw [List.zip_append hl.symm]; rfl
theorem entsB_keys {zs : List Value} {ns : List Nm} (hl : zs.length = ns.length) : (entsB zs ns).map (·.1) = ns := by
  show (ns.zip zs).map Prod.fst = ns
  exact List.map_fst_zip (by omega)
/-- A graph that is being made: the blocks of it and of its maps. -/
abbrev Blk (g bb bu : Nat) (c : Array Value) (ob ou : Obj) : Blocks := [(g, .cells c 133), (bb, ob), (bu, ou)]
theorem Blk.us {w : World} {g bb bu : Nat} {x y : Value} {ob ou : Obj} {wr : World} {L : List Rw} (h : Own ⟨w, Blk g bb bu #[.map (some bu), x, y] ob ou⟩ wr L) {ys : List UV} {us : List GU} (hl : Like ys us) (hs : ∀ r ∈ rowsAll ys us, r ∈ L) (hm : MapO keyN ou (entsU ys)) : UsAt wr g bu ys us :=
  ⟨by rw [h.cellB (b := g) (List.mem_cons_self ..)]; rfl, ⟨ou, h.at (List.mem_cons_of_mem _ (List.mem_cons_of_mem _ (List.mem_cons_self ..))), hm⟩, hl.units h hs⟩
theorem Blk.be {w : World} {g bb bu : Nat} {x y : Value} {ob ou : Obj} {wr : World} {L : List Rw} (h : Own ⟨w, Blk g bb bu #[x, .map (some bb), y] ob ou⟩ wr L) {us : List GU} {zs : List Value} {ns : List Nm} (hl : zs.length = ns.length) (hs : ∀ r ∈ rowsB us zs ns, r ∈ L) (hm : MapO keyN ob (entsB zs ns)) : BeAt wr g bb ns (aheadU us) :=
  ⟨by rw [h.cellB (b := g) (List.mem_cons_self ..)]; rfl, ob, _, h.at (List.mem_cons_of_mem _ (List.mem_cons_self ..)), hm, fun n hn => by
    obtain ⟨z, h1, h2⟩ := (look_zip hl n).2 hn
    exact ⟨z, h1, h.stsMem (hs _ (h2 us))⟩, fun n hn => (look_zip hl n).1 hn⟩
end Go.Proofs.YtnjabanjgckeoaaGreatDoor
end

/- New, its first loop: units are laid into the graph's map. -/
section
namespace Go.Proofs.YtnjabanjgckeoaaGreatDoor
open Go.RowKit
open Go.ChangeMaps (setBlock)
set_option linter.unusedVariables false
set_option linter.unusedSimpArgs false
set_option maxRecDepth 100000

structure St1 (w : World) (g bb bu : Nat) (c : Array Value) (ob : Obj) (us : List GU) (k : Nat) (ou : Obj) (ys : List UV) (wr : World) : Prop where
  own : Own ⟨w, Blk g bb bu c ob ou⟩ wr (rowsAll ys (us.take k))
  like : Like ys (us.take k)
  map : MapO keyN ou (entsU ys)
  once : (namesU (us.take k)).Nodup
theorem St1.usAt {w : World} {g bb bu : Nat} {x y : Value} {ob ou : Obj} {us : List GU} {k : Nat} {ys : List UV} {wr : World} (h : St1 w g bb bu #[.map (some bu), x, y] ob us k ou ys wr) : UsAt wr g bu ys (us.take k) := Blk.us h.own h.like (fun r hr => hr) h.map
theorem St1.later {w : World} {g bb bu : Nat} {c : Array Value} {ob ou : Obj} {us : List GU} {k : Nat} {ys : List UV} {wr w' : World} (h : St1 w g bb bu c ob us k ou ys wr) (hb : Below wr.heap.size wr w') : St1 w g bb bu c ob us k ou ys w' := { h with own := h.own.later hb }
/-- One more unit. -/
theorem St1.add {w : World} {g bb bu : Nat} {c : Array Value} {ob ou : Obj} {us : List GU} {k : Nat} {ys : List UV} {wr w' : World} (h : St1 w g bb bu c ob us k ou ys wr) (hne : g ≠ bu ∧ bb ≠ bu) (hk : k < us.length) {y : UV} (hn : y.name = us[k].name) (hr : y.ret = us[k].ret) (hnew : us[k].name ∉ namesU (us.take k)) (hO : Own wr w' (rows6 y us[k])) :
    ∃ ou', (Instr.mapUpdate 130 (.map (some bu)) (.string (toB us[k].name)) y.val).run Tryz.prog w' = .ok () (setBlock w' bu ou') ∧ St1 w g bb bu c ob us (k + 1) ou' (ys ++ [y]) (setBlock w' bu ou') := by
  have hj := h.own.join hO
  have hbu : (bu, ou) ∈ Blk g bb bu c ob ou := List.mem_cons_of_mem _ (List.mem_cons_of_mem _ (List.mem_cons_self ..))
  obtain ⟨ou', e1, e2⟩ := h.map.update (P := Tryz.prog) (kindsN und_str) und_us (hj.at hbu) us[k].name y.val
  have ht : us.take (k + 1) = us.take k ++ [us[k]] := List.take_succ_eq_append_getElem hk
  have hkeys : (entsU ys).map (·.1) = namesU (us.take k) := by
    rw [← h.like.names]; unfold entsU; rw [List.map_map]; rfl
  rw [putG_fresh (by rw [hkeys]; exact hnew)] at e2
  have hS := hj.setB hbu ou'
  have hup : upd (Blk g bb bu c ob ou) bu ou' = Blk g bb bu c ob ou' := by
    simp [upd, Blk, hne.1, hne.2]
  rw [hup] at hS
  refine ⟨ou', e1, ?_, ?_, ?_, ?_⟩
  · rw [ht, rowsAll_snoc _ _ _ _ h.like.len]
    exact hS.perm List.perm_append_comm
  · rw [ht]; exact h.like.snoc hn hr
  · have : entsU (ys ++ [y]) = entsU ys ++ [(us[k].name, y.val)] := by unfold entsU; rw [List.map_append, ← hn]; rfl
    rw [this]; exact e2
  · rw [ht]
    unfold namesU at *
    rw [List.map_append]
    refine List.nodup_append.2 ⟨h.once, by simp, fun a ha b hb => ?_⟩
    have hb' : b = us[k].name := by simpa using hb
    rw [hb']
    exact fun e => hnew (e ▸ ha)
theorem Own.newB_at {w0 w : World} {S : Blocks} {L : List Rw} (h : Own ⟨w0, S⟩ w L) (o : Obj) (b : Nat) (hb : b = w.heap.size) : Own ⟨w0, (b, o) :: S⟩ (w.alloc o) L := hb ▸ h.newB o
theorem cell_setB_ne (W : World) {b c : Nat} (o : Obj) (h : c ≠ b) (j : Nat) : (setBlock W b o).cell? ⟨c, j, none⟩ = W.cell? ⟨c, j, none⟩ := by
  have e : (setBlock W b o).heap[c]? = W.heap[c]? := by simp [setBlock, Ne.symm h]
  unfold World.cell?
  rw [e]
theorem run_mk56 (w : World) : (Instr.makeMap 130 none).run Tryz.prog w = .ok (.map (some w.heap.size)) (w.alloc (.map #[] 0)) := rfl
theorem run_mk57 (w : World) : (Instr.makeMap 131 none).run Tryz.prog w = .ok (.map (some w.heap.size)) (w.alloc (.map #[] 0)) := rfl
def NewPost (w : World) (us : List GU) (e : Ending) (w' : World) : Prop := ∃ gv n, e = .returned (.tuple #[gv, .int .i64 (errU us), .string (toB n)]) ∧ Below w.heap.size w w' ∧ (errU us ≠ 0 → gv = .pointer none) ∧ (errU us = 0 → ∃ g, gv = .pointer (some ⟨g, 0, none⟩) ∧ GAt w' g us (ordU us)) ∧ (errU us = 19 → (placeU us).2.head? = some n)
/-- A graph that lies in known blocks and in owned rows. -/
def GIn (S : Blocks) (L : List Rw) (g : Nat) (us : List GU) (ord : List Nm) : Prop := ∀ (W0 : World) (S' : Blocks) (w' : World) (L' : List Rw), (∀ m ∈ S, m ∈ S') → (∀ r ∈ L, r ∈ L') → Own ⟨W0, S'⟩ w' L' → GAt w' g us ord
def NewPost2 (w : World) (us : List GU) (e : Ending) (w' : World) : Prop := ∃ gv n, e = .returned (.tuple #[gv, .int .i64 (errU us), .string (toB n)]) ∧ Below w.heap.size w w' ∧ (errU us ≠ 0 → gv = .pointer none) ∧ (errU us = 0 → ∃ g S L, gv = .pointer (some ⟨g, 0, none⟩) ∧ Own ⟨w, S⟩ w' L ∧ GIn S L g us (ordU us)) ∧ (errU us = 19 → (placeU us).2.head? = some n)
theorem NewPost2.weak {w w' : World} {us : List GU} {e : Ending} (h : NewPost2 w us e w') : NewPost w us e w' := by
  obtain ⟨gv, n, h1, h2, h3, h4, h5⟩ := h
  refine ⟨gv, n, h1, h2, h3, fun h0 => ?_, h5⟩
  obtain ⟨g, S, L, k1, k2, k3⟩ := h4 h0
  exact ⟨g, k1, k3 w S w' L (fun _ h => h) (fun _ h => h) k2⟩
theorem NewPost2.bad {w w' : World} {us : List GU} {x : Int} (hE : errU us = x) (hx : x ≠ 0) {n : Nm} (h19 : x = 19 → (placeU us).2.head? = some n) {nb : ByteArray} (hn : toB n = nb) (hb : Below w.heap.size w w') : NewPost2 w us (.returned (.tuple #[.pointer none, .int .i64 x, .string nb])) w' := by
  subst hE hn
  exact ⟨_, n, rfl, hb, fun _ => rfl, fun h => absurd h hx, h19⟩
theorem NewPost2.good {w w' : World} {us : List GU} (hE : errU us = 0) {g : Nat} {S : Blocks} {L : List Rw} (hO : Own ⟨w, S⟩ w' L) (hg : GIn S L g us (ordU us)) (hb : Below w.heap.size w w') : NewPost2 w us (.returned (.tuple #[.pointer (some ⟨g, 0, none⟩), .int .i64 0, .string ⟨#[]⟩])) w' := by
  refine ⟨_, [], by rw [hE], hb, fun h => absurd hE h, fun _ => ⟨g, S, L, rfl, hO, hg⟩, fun h => by rw [hE] at h; cases h⟩
structure St2 (w : World) (g bb bu : Nat) (c : Array Value) (ou : Obj) (us : List GU) (ys : List UV) (vN : Value) (names : List Nm) (j : Nat) (ob : Obj) (zs : List Value) (wr : World) : Prop where
  own : Own ⟨w, Blk g bb bu c ob ou⟩ wr (rowSs vN names :: (rowsB us zs (names.take j) ++ rowsAll ys us))
  len : zs.length = (names.take j).length
  map : MapO keyN ob (entsB zs (names.take j))
theorem St2.add {w : World} {g bb bu : Nat} {c : Array Value} {ob ou : Obj} {us : List GU} {ys : List UV} {vN : Value} {names : List Nm} {j : Nat} {zs : List Value} {wr w' : World} (h : St2 w g bb bu c ou us ys vN names j ob zs wr) (hne : g ≠ bb ∧ bu ≠ bb) (hd : names.Nodup) (hj : j < names.length) {z : Value} (hO : Own wr w' [rowSs z (aheadU us names[j])]) :
    ∃ ob', (Instr.mapUpdate 131 (.map (some bb)) (.string (toB names[j])) z).run Tryz.prog w' = .ok () (setBlock w' bb ob') ∧ St2 w g bb bu c ou us ys vN names (j + 1) ob' (zs ++ [z]) (setBlock w' bb ob') := by
  have hjn := h.own.join hO
  have hbb : (bb, ob) ∈ Blk g bb bu c ob ou := List.mem_cons_of_mem _ (List.mem_cons_self ..)
  obtain ⟨ob', e1, e2⟩ := h.map.update (P := Tryz.prog) (kindsN und_str) und_be (hjn.at hbb) names[j] z
  have ht : names.take (j + 1) = names.take j ++ [names[j]] := List.take_succ_eq_append_getElem hj
  have hnew : names[j] ∉ names.take j := by
    have h2 : (names.take (j + 1)).Nodup := hd.sublist (List.take_sublist _ _)
    rw [ht] at h2
    intro hm
    exact (List.nodup_append.1 h2).2.2 _ hm names[j] (List.mem_singleton.2 rfl) rfl
  rw [putG_fresh (by rw [entsB_keys h.len]; exact hnew)] at e2
  have hS := hjn.setB hbb ob'
  have hup : upd (Blk g bb bu c ob ou) bb ob' = Blk g bb bu c ob' ou := by
    simp [upd, Blk, hne.1, hne.2]
  rw [hup] at hS
  refine ⟨ob', e1, ?_, ?_, ?_⟩
  · rw [ht, rowsB_snoc _ _ _ _ _ h.len]
    refine hS.perm ?_
    show List.Perm (rowSs z (aheadU us names[j]) :: rowSs vN names :: (rowsB us zs (names.take j) ++ rowsAll ys us)) (rowSs vN names :: (rowsB us zs (names.take j) ++ [rowSs z (aheadU us names[j])] ++ rowsAll ys us))
    refine (List.Perm.swap _ _ _).trans (List.Perm.cons _ ?_)
    rw [List.append_assoc]
    exact List.perm_middle.symm
  · rw [ht, List.length_append, List.length_append, h.len]; rfl
  · rw [ht, entsB_snoc h.len]; exact e2
theorem BeAt.keys {w : World} {g bb : Nat} {ks ks' : List Nm} {beh : Nm → List Nm} (h : BeAt w g bb ks beh) (hk : ∀ x, x ∈ ks ↔ x ∈ ks') : BeAt w g bb ks' beh := by
  obtain ⟨o, mb, h1, h2, h3, h4⟩ := h.map
  exact ⟨h.cell, o, mb, h1, h2, fun n hn => h3 n ((hk n).2 hn), fun n hn => h4 n fun h => hn ((hk n).1 h)⟩
set_option maxHeartbeats 16000000 in
theorem new_any2 {w : World} {v : Value} {us : List GU} (h : UArg w v us) (hlen : us.length ≤ 1000000) (hs : ∀ n ∈ namesU us, n.length ≤ 1000000) (hb : ∀ u ∈ us, Bnd u) :
    Calls Tryz.prog 19 #[v] w (NewPost2 w us) := by
  obtain ⟨a, c, xs, rfl, hU, hr⟩ := h
  have hn : (us.length : Int) ≤ 1000000 := by omega
  by_cases hmany : 16 < us.length
  · have he : errU us = 22 := by unfold errU; rw [if_pos hmany]
    have hmi : (16 : Int) < (us.length : Int) := by omega
    clear hU hr hb hs hmany
    go_enter Tryz.func19, Tryz.ntmps19
    go_wp2_with fail
    go_ret3
    exact NewPost2.bad he (by decide) (n := []) (fun h => by cases h) rfl (Below.refl _ _)
  have hfew : us.length ≤ 16 := by omega
  have m1 := run_mk56
  have m2 := run_mk57
  have O1 := ((Own.start w).newB_at (.map #[] 0) w.heap.size rfl).newB_at (.map #[] 0) (w.heap.size + 1) (by simp)
  have O2 := O1.newB_at (.cells #[.map (some w.heap.size), .map (some (w.heap.size + 1)), .slice none 0 0] 133) (w.heap.size + 1 + 1) (by simp)
  have hne1 : w.heap.size + 1 + 1 ≠ w.heap.size ∧ w.heap.size + 1 ≠ w.heap.size := ⟨by omega, by omega⟩
  have HST := Lib.hid (show St1 w (w.heap.size + 1 + 1) (w.heap.size + 1) w.heap.size #[.map (some w.heap.size), .map (some (w.heap.size + 1)), .slice none 0 0] (.map #[] 0) us 0 (.map #[] 0) [] _ from ⟨O2, .nil, MapO.empty _, List.nodup_nil⟩)
  have hgb : w.heap.size + 1 + 1 ≠ w.heap.size + 1 := by omega
  have HNE := Lib.hid hne1
  have HGB := Lib.hid hgb
  have HU := Lib.hid hU
  have HR := Lib.hid hr
  have HS := Lib.hid hs
  have HB := Lib.hid hb
  have HF := Lib.hid hfew
  have hfi : (us.length : Int) ≤ 16 := by omega
  clear O1 O2 hne1 hgb hU hr hs hb hmany hfew hlen
  go_enter Tryz.func19, Tryz.ntmps19
  go_upto_region 4 with fail
  generalize hbu : w.heap.size = bu at *
  have HBU := Lib.hid hbu
  clear hbu m1 m2
  obtain ⟨W3, hW3⟩ : ∃ W3 : World, W3 = ((w.alloc (.map #[] 0)).alloc (.map #[] 0)).alloc (.cells #[.map (some bu), .map (some (bu + 1)), .slice none 0 0] 133) := ⟨_, rfl⟩
  rw [← hW3] at HST ⊢
  clear hW3
  go_wp2_with fail
  go_loopw [22] (fun s wr => ∃ k ou ys, k ≤ us.length ∧ s = .int .i64 (k : Nat) ∧ St1 w (bu + 1 + 1) (bu + 1) bu #[.map (some bu), .map (some (bu + 1)), .slice none 0 0] (.map #[] 0) us k ou ys wr) (fun s _ => us.length - (intOf s).toNat)
  case atStart => exact ⟨0, _, _, Nat.zero_le _, rfl, HST.out⟩
  case round =>
    obtain ⟨k, ou, ys, hk, rfl, h1⟩ := hrel
    by_cases hlt : k < us.length
    · have hkx : k < xs.length := by rw [HU.out.len]; exact hlt
      obtain ⟨⟨b, o, rfl, hrg⟩, _⟩ := HR.out k hkx
      have hbw := h1.own.below
      have hUk := HU.out.at k hkx hlt
      have hrg2 : wr.rangeAt b (o + k * 8) xs[k].cells := fun j u hj => by
        have h2 := hrg j u hj
        exact (hbw.cell (p := ⟨b, o + k * 8 + j, none⟩) (World.block_lt_of_cell? w ⟨b, o + k * 8 + j, none⟩ h2)).trans h2
      have hnm : us[k].name ∈ namesU us := mem_names.2 ⟨us[k], List.getElem_mem hlt, rfl⟩
      have hBnd := HB.out us[k] (List.getElem_mem hlt)
      have H1 := Lib.hid h1
      have HBB := Lib.hid (show wr.heap.size ≠ bu from Nat.ne_of_gt (h1.own.atLt (b := bu) (o := ou) (List.mem_cons_of_mem _ (List.mem_cons_of_mem _ (List.mem_cons_self ..)))).2)
      have HUk := Lib.hid (hUk.later hbw)
      have Hone := Lib.hid hUk.one
      have hcsp : (Tryz.prog.info? 64).map (·.size) = some xs[k].cells.length := info_uv
      have h8 := Lib.hid (show (8 : Nat) = xs[k].cells.length from rfl)
      have D0 := Lib.hid (show xs[k].cells[0]? = some (.string (toB xs[k].name)) from rfl)
      have HX := Lib.hid (show xs[k].val = .agg xs[k].cells.toArray from rfl)
      have HBnd := Lib.hid hBnd
      have hklt : (k : Int) < (us.length : Int) := by omega
      have hname : xs[k].name = us[k].name := hUk.name
      clear h1 hrg hbw hUk hnm hBnd hk
      generalize hxx : xs[k] = X at *
      generalize hpc : X.cells = pcs at *
      go_upto_region 7 with (first
        | (refine wpList_load_mid rfl 64 (.tmp 24) rfl b (o + k * 8) rfl pcs _ hrg2 Tryz.underlying64 rfl hcsp ?_)
        | (refine wpList_store_new rfl 64 (.tmp 7) (.tmp 25) rfl H1.out.own pcs wr.heap.size rfl rfl rfl h8.out hcsp Hone.out ?_))
      intro w3 hO3 _
      have h3 : St1 w (bu + 1 + 1) (bu + 1) bu #[.map (some bu), .map (some (bu + 1)), .slice none 0 0] (.map #[] 0) us k ou ys w3 := { H1.out with own := hO3.tail }
      have c0 : w3.cell? ⟨wr.heap.size, 0, none⟩ = some (.string (toB X.name)) := by
        rw [hO3.cell 0 (by rw [← h8.out]; decide)]; exact D0.out
      have rb : w3.rangeAt wr.heap.size 0 pcs := by
        have := hO3.range 0 8
        rw [List.drop_zero, List.take_of_length_le (by rw [← h8.out]; exact Nat.le_refl _)] at this
        exact this
      have kh := has_any h3.usAt X.name
      have hUw3 : UVIs w3 X us[k] := by
        have q := HU.out.at k hkx hlt
        rw [hxx] at q
        exact q.later h3.own.below
      have H3 := Lib.hid h3
      have HU3 := Lib.hid hUw3
      have RB := Lib.hid rb
      have C0 := Lib.hid c0
      have Hname := Lib.hid hname
      have hb7 := Lib.hid (World.block_lt_of_cell? w3 ⟨wr.heap.size, 0, none⟩ c0)
      clear h3 hO3 hUw3 rb hname hxx
      generalize wr.heap.size = b7 at *
      generalize hxn : toB X.name = nb at *
      have HXN := Lib.hid hxn
      clear hxn
      by_cases hin : X.name ∈ namesU (us.take k)
      · rw [decide_eq_true hin] at kh
        have HE : Hid (errU us = 9) := by
          have hnd : ¬ (namesU us).Nodup := fun hd => by
            have h1 : us = us.take k ++ us[k] :: us.drop (k + 1) := by rw [← List.drop_eq_getElem_cons hlt, List.take_append_drop]
            rw [h1] at hd
            unfold namesU at hd hin
            rw [List.map_append, List.map_cons] at hd
            exact (List.nodup_append.1 hd).2.2 _ hin us[k].name (List.mem_cons_self ..) Hname.out
          show errU us = 9
          unfold errU
          rw [if_neg (by have := HF.out; omega), if_pos hnd]
        clear hin
        go_wp2_with (go_at_call 54; refine kh.mono ?_; rintro e w4 ⟨rfl, hb4⟩; have c04 := (hb4.cell (p := ⟨b7, 0, none⟩) hb7.out).trans c0; have HB4 := Lib.hid hb4; clear hb4 c0)
        go_quiet (fail)
        go_wp2_with fail
        go_ret3
        exact NewPost2.bad HE.out (by decide) (n := X.name) (fun h => by cases h) HXN.out (H3.out.later HB4.out).own.drewN.below
      · rw [decide_eq_false hin] at kh
        have Hin := Lib.hid hin
        clear hin
        go_wp2_with (go_at_call 54; refine kh.mono ?_; rintro e w4 ⟨rfl, hb4⟩; have c04 := (hb4.cell (p := ⟨b7, 0, none⟩) hb7.out).trans c0; have HB4 := Lib.hid hb4; clear hb4 c0)
        have cg := (H3.out.later HB4.out).usAt.cell
        have rb4 : w4.rangeAt b7 0 pcs := fun j u hj => by
          have h2 := RB.out j u hj
          exact (HB4.out.cell (p := ⟨b7, 0 + j, none⟩) (World.block_lt_of_cell? w3 ⟨b7, 0 + j, none⟩ h2)).trans h2
        have hb74 := lt_of_heap (w := w4) (k := b7) (o := (w4.heap[b7]'(World.block_lt_of_cell? w4 ⟨b7, 0, none⟩ c04))) (Array.getElem?_eq_getElem _)
        have e8 := hpc.symm
        unfold UV.cells at e8
        rw [HXN.out] at e8
        have KA := Lib.hid (fun W (hb : Below w4.heap.size w4 W) => apart_any W X us[k] ((HU3.out.later HB4.out).later hb) HBnd.out)
        have HADD := Lib.hid (fun W (hb : Below w4.heap.size w4 W) w5 (y : UV) (h1 : y.name = us[k].name) (h2 : y.ret = us[k].ret) (hO : Own W w5 (rows6 y us[k])) => ((H3.out.later HB4.out).later hb).add HNE.out hlt h1 h2 (by rw [← Hname.out]; exact Hin.out) hO)
        have hxv : X.val = .agg #[.string nb, X.v1, X.v2, X.v3, X.v4, X.v5, X.v6, .int .i64 X.ret] := by rw [← HXN.out]; rfl
        rw [hxv] at KA
        rw [show toB us[k].name = nb from by rw [← Hname.out]; exact HXN.out] at HADD
        clear hpc HX hxv
        generalize X.v1 = y1 at *
        generalize X.v2 = y2 at *
        generalize X.v3 = y3 at *
        generalize X.v4 = y4 at *
        generalize X.v5 = y5 at *
        generalize X.v6 = y6 at *
        generalize X.ret = yr at *
        have HS8 := Lib.hid (fun (W : World) (hb : Below w4.heap.size w4 W) => (show W.cell? ⟨bu + 1 + 1, 0, none⟩ = some (.map (some bu)) ∧ W.cell? ⟨b7, 0, none⟩ = some (.string nb) ∧ W.cell? ⟨b7, 1, none⟩ = some y1 ∧ W.cell? ⟨b7, 2, none⟩ = some y2 ∧ W.cell? ⟨b7, 3, none⟩ = some y3 ∧ W.cell? ⟨b7, 4, none⟩ = some y4 ∧ W.cell? ⟨b7, 5, none⟩ = some y5 ∧ W.cell? ⟨b7, 6, none⟩ = some y6 ∧ W.cell? ⟨b7, 7, none⟩ = some (.int .i64 yr) from by
          have q := fun j u (hj : pcs[j]? = some u) => (hb.cell (p := ⟨b7, 0 + j, none⟩) hb74).trans (rb4 j u hj)
          simp only [Nat.zero_add] at q
          rw [e8] at q
          exact ⟨(hb.cell (p := ⟨bu + 1 + 1, 0, none⟩) (World.block_lt_of_cell? w4 ⟨bu + 1 + 1, 0, none⟩ cg)).trans cg, q 0 _ rfl, q 1 _ rfl, q 2 _ rfl, q 3 _ rfl, q 4 _ rfl, q 5 _ rfl, q 6 _ rfl, q 7 _ rfl⟩))
        have HS9 := Lib.hid (fun (W : World) (o9 : Obj) (hb : Below w4.heap.size w4 W) => (show (setBlock W bu o9).cell? ⟨bu + 1 + 1, 0, none⟩ = some (.map (some bu)) ∧ (setBlock W bu o9).cell? ⟨b7, 0, none⟩ = some (.string nb) ∧ (setBlock W bu o9).cell? ⟨b7, 1, none⟩ = some y1 ∧ (setBlock W bu o9).cell? ⟨b7, 2, none⟩ = some y2 ∧ (setBlock W bu o9).cell? ⟨b7, 3, none⟩ = some y3 ∧ (setBlock W bu o9).cell? ⟨b7, 4, none⟩ = some y4 ∧ (setBlock W bu o9).cell? ⟨b7, 5, none⟩ = some y5 ∧ (setBlock W bu o9).cell? ⟨b7, 6, none⟩ = some y6 ∧ (setBlock W bu o9).cell? ⟨b7, 7, none⟩ = some (.int .i64 yr) from by
          obtain ⟨q0, q1, q2, q3, q4, q5, q6, q7, q8⟩ := HS8.out W hb
          have n1 := cell_setB_ne W o9 HNE.out.1
          have n2 := cell_setB_ne W o9 HBB.out
          exact ⟨(n1 _).trans q0, (n2 _).trans q1, (n2 _).trans q2, (n2 _).trans q3, (n2 _).trans q4, (n2 _).trans q5, (n2 _).trans q6, (n2 _).trans q7, (n2 _).trans q8⟩))
        have hS8 := HS8.out w4 (Below.refl _ _)
        clear rb4 c04 cg e8
        go_region_held3 (fun W : World => W.cell? ⟨bu + 1 + 1, 0, none⟩ = some (.map (some bu)) ∧ W.cell? ⟨b7, 0, none⟩ = some (.string nb) ∧ W.cell? ⟨b7, 1, none⟩ = some y1 ∧ W.cell? ⟨b7, 2, none⟩ = some y2 ∧ W.cell? ⟨b7, 3, none⟩ = some y3 ∧ W.cell? ⟨b7, 4, none⟩ = some y4 ∧ W.cell? ⟨b7, 5, none⟩ = some y5 ∧ W.cell? ⟨b7, 6, none⟩ = some y6 ∧ W.cell? ⟨b7, 7, none⟩ = some (.int .i64 yr)) (first | exact hS8 | exact HS8.out _ (Below.refl _ _) | exact HS8.out _ (Below.refl _ _).drew | exact HS8.out _ hb5 | exact HS9.out _ _ hb5 | exact HS9.out _ _ hb5.drew | exact HS8.out _ hb5.drew) (first | (go_at_call 55; refine (KA.out _ ?_).mono ?_; (first | exact Below.refl _ _ | exact (Below.refl _ _).drew); rintro e w5 ⟨y, rfl, hy1, hy2, hO5⟩; have hb5 : Below w4.heap.size w4 w5 := (by first | exact (Below.refl _ _).trans hO5.below | exact ((Below.refl _ _).drew).trans hO5.below); obtain ⟨ou5, hup5, hst5⟩ := HADD.out _ (by first | exact Below.refl _ _ | exact (Below.refl _ _).drew) w5 y hy1 hy2 hO5; obtain ⟨ou6, hup6, hst6⟩ := HADD.out _ (by first | exact Below.refl _ _ | exact (Below.refl _ _).drew) w5.drew y hy1 hy2 hO5.drew; have HST5 := Lib.hid hst5; have HST6 := Lib.hid hst6; clear hst5 hst6 hO5))
        go_wp2_with fail
        go_roundw
        case rel => exact ⟨k + 1, _, _, by omega, by go_num, by first | exact HST5.out | exact HST6.out⟩
        case measure => simp [intOf]; omega
    · obtain rfl : k = us.length := by omega
      have hown := h1.own
      have hlike := h1.like
      have honce := h1.once
      have hmap := h1.map
      rw [List.take_length] at hown hlike honce
      have hus : UsAt wr (bu + 1 + 1) bu ys us := Blk.us hown hlike (fun r hr => hr) hmap
      have kn := names_any hus honce (by have := HF.out; omega) HS.out
      have hnl : (sortN (namesU us)).length = us.length := by rw [sortN_length]; simp [namesU]
      have hnd : (sortN (namesU us)).Nodup := sortN_nodup.2 honce
      have HOwn := Lib.hid hown
      have HLike := Lib.hid hlike
      have HOnce := Lib.hid honce
      have HMap := Lib.hid hmap
      have HNL := Lib.hid hnl
      have HND := Lib.hid hnd
      have HBad := Lib.hid (show badU us = (sortN (namesU us)).any (lacksU us) from rfl)
      clear h1 hown hlike honce hmap hus hlt hk hnl hnd
      go_upto_region 12 with (go_at_call 42; refine kn.mono ?_; rintro e w4 ⟨vN, rfl, hO4⟩; have HO4 := Lib.hid hO4; clear hO4)
      have hO5 : Own ⟨w, Blk (bu + 1 + 1) (bu + 1) bu #[.map (some bu), .map (some (bu + 1)), .slice none 0 0] (.map #[] 0) ou⟩ w4 (rowSs vN (sortN (namesU us)) :: rowsAll ys us) := HOwn.out.join HO4.out
      obtain ⟨an, nn, cn, hvN⟩ := hO5.sts.shape
      have hvN' : vN = .slice an nn cn := hvN
      subst hvN'
      have hnn : nn = (sortN (namesU us)).length := by
        obtain ⟨a', c', e', _⟩ := hO5.sts
        injection e'
      have hus4 : UsAt w4 (bu + 1 + 1) bu ys us := Blk.us hO5 HLike.out (fun r hr => List.mem_cons_of_mem _ hr) HMap.out
      have ki := index_bd 57 (.pointer (some ⟨bu + 1 + 1, 0, none⟩)) (lacksU us) (enters_of Tryz.func57 (by kernel_rfl) rfl) (.slice an nn cn) _ w4 hO5.sts (fun W x _ hb => lacks_any (hus4.later hb) x)
      have HO5 := Lib.hid hO5
      have Hnn := Lib.hid hnn
      clear hO5 hvN hnn hus4 kn
      rcases idxF_cases (lacksU us) (sortN (namesU us)) with ⟨e1, e2, e3⟩ | ⟨k, hk, e1, e2, e3, _⟩
      · rw [e2] at ki
        have HE3 := Lib.hid (show badU us = false from by rw [HBad.out]; exact List.any_eq_false.2 fun x hx => by rw [e3 x hx]; simp)
        clear e1 e2 e3
        have hst2 : St2 w (bu + 1 + 1) (bu + 1) bu #[.map (some bu), .map (some (bu + 1)), .slice none 0 0] ou us ys (.slice an nn cn) (sortN (namesU us)) 0 (.map #[] 0) [] w4 := ⟨HO5.out, rfl, MapO.empty _⟩
        have HI := Lib.hid (fun w6 (hb : Below w4.heap.size w4 w6) => (show St2 w (bu + 1 + 1) (bu + 1) bu #[.map (some bu), .map (some (bu + 1)), .slice none 0 0] ou us ys (.slice an nn cn) (sortN (namesU us)) 0 (.map #[] 0) [] w6 from ⟨HO5.out.later hb, rfl, MapO.empty _⟩))
        clear hst2
        go_wp2_with (go_at_call 56; refine ki.mono ?_; rintro e w6 ⟨rfl, hb6⟩; have HI6 := Lib.hid (HI.out w6 hb6); clear hb6)
        generalize hnames : sortN (namesU us) = names at *
        have HNAMES := Lib.hid hnames
        clear hnames ki HI
        have hnsm : (nn : Int) ≤ 16 := by have h1 := Hnn.out; have h2 := HNL.out; have h3 := HF.out; omega
        go_loopw [55] (fun s wr => ∃ j ob zs, j ≤ nn ∧ s = .int .i64 (j : Nat) ∧ St2 w (bu + 1 + 1) (bu + 1) bu #[.map (some bu), .map (some (bu + 1)), .slice none 0 0] ou us ys (.slice an nn cn) names j ob zs wr) (fun s _ => nn - (intOf s).toNat)
        case atStart => exact ⟨0, _, _, Nat.zero_le _, rfl, HI6.out⟩
        case round =>
          obtain ⟨j, ob, zs, hj, rfl, h2⟩ := hrel
          by_cases hlt : j < nn
          · have hjl : j < names.length := by rw [← Hnn.out]; exact hlt
            obtain ⟨gn, hform⟩ : ∃ gn, an = some ⟨gn, 0, none⟩ := by
              obtain ⟨gn, cap, e, _⟩ := h2.own.form (by omega)
              injection e with e _ _
              exact ⟨gn, e⟩
            subst hform
            have ck : wr.cell? ⟨gn, j, none⟩ = some (.string (toB names[j])) := by
              have h5 := h2.own
              rw [Hnn.out] at h5
              exact Own.str h5 j hjl
            have hbz : bu + 1 + 1 ≠ bu + 1 ∧ bu ≠ bu + 1 := ⟨by omega, by omega⟩
            have KA := Lib.hid (fun W (hb : Below wr.heap.size wr W) => ahead_any (Blk.us (h2.own.later hb) HLike.out (fun r hr => List.mem_cons_of_mem _ (List.mem_append_right _ hr)) HMap.out) HOnce.out (by have := HF.out; omega) names[j])
            have HADD := Lib.hid (fun W (hb : Below wr.heap.size wr W) w5 (z : Value) (hO : Own W w5 [rowSs z (aheadU us names[j])]) => (show St2 w (bu + 1 + 1) (bu + 1) bu #[.map (some bu), .map (some (bu + 1)), .slice none 0 0] ou us ys (.slice (some ⟨gn, 0, none⟩) nn cn) names j ob zs W from { h2 with own := h2.own.later hb }).add hbz HND.out hjl hO)
            have hcg : ∀ W, Below wr.heap.size wr W → W.cell? ⟨bu + 1 + 1, 1, none⟩ = some (.map (some (bu + 1))) := fun W hb => by
              rw [(h2.own.later hb).cellB (b := bu + 1 + 1) (List.mem_cons_self ..)]; rfl
            have HCG := Lib.hid hcg
            have HCG2 := Lib.hid (fun (W : World) (o9 : Obj) (hb : Below wr.heap.size wr W) => (show (setBlock W (bu + 1) o9).cell? ⟨bu + 1 + 1, 1, none⟩ = some (.map (some (bu + 1))) from (cell_setB_ne W o9 hbz.1 1).trans (hcg W hb)))
            have hS8 := hcg wr (Below.refl _ _)
            clear h2 hcg hbz
            generalize names[j] = nm at *
            generalize toB nm = nmb at *
            go_upto_region 18 with fail
            go_region_held3 (fun W : World => W.cell? ⟨bu + 1 + 1, 1, none⟩ = some (.map (some (bu + 1)))) (first | exact hS8 | exact HCG.out _ (Below.refl _ _) | exact HCG.out _ (Below.refl _ _).drew | exact HCG.out _ hb5 | exact HCG.out _ hb5.drew | exact HCG2.out _ _ hb5 | exact HCG2.out _ _ hb5.drew) (first | (go_at_call 58; refine (KA.out _ ?_).mono ?_; (first | exact Below.refl _ _ | exact (Below.refl _ _).drew); rintro e w5 ⟨z, rfl, hO5⟩; have hb5 : Below wr.heap.size wr w5 := (by first | exact (Below.refl _ _).trans hO5.below | exact ((Below.refl _ _).drew).trans hO5.below); obtain ⟨ob5, hup5, hst5⟩ := HADD.out _ (by first | exact Below.refl _ _ | exact (Below.refl _ _).drew) w5 z hO5; obtain ⟨ob6, hup6, hst6⟩ := HADD.out _ (by first | exact Below.refl _ _ | exact (Below.refl _ _).drew) w5.drew z hO5.drew; have HST5 := Lib.hid hst5; have HST6 := Lib.hid hst6; clear hst5 hst6 hO5))
            go_wp2_with fail
            go_roundw
            case rel => exact ⟨j + 1, _, _, by omega, by go_num, by first | exact HST5.out | exact HST6.out⟩
            case measure => simp [intOf]; omega
          · obtain rfl : j = nn := by omega
            have hown := h2.own
            have hlen2 := h2.len
            have hmap2 := h2.map
            rw [Hnn.out, List.take_length] at hown hlen2 hmap2
            have hBE : ∀ w', Own ⟨w, Blk (bu + 1 + 1) (bu + 1) bu #[.map (some bu), .map (some (bu + 1)), .slice none 0 0] ob ou⟩ w' (rowsB us zs names ++ rowsAll ys us) → BeAt w' (bu + 1 + 1) (bu + 1) names (aheadU us) := fun w' h => Blk.be h hlen2 (fun r hr => List.mem_append_left _ hr) hmap2
            have kp := placeG_any hown hBE (fun x hx => hx) (by have h2 := HNL.out; have h3 := HF.out; omega)
            have hplu : placeN (aheadU us) names.length [] names = placeU us := by
              unfold placeU; rw [HNAMES.out, HNL.out]
            rw [hplu, ← Hnn.out] at kp
            have HLEN2 := Lib.hid hlen2
            have HMAP2 := Lib.hid hmap2
            clear h2 hown hlen2 hmap2 hBE hplu hlt hj
            go_upto_region 22 with (go_at_call 59; refine kp.mono ?_; rintro e w6 ⟨v1, v2, rfl, hO6⟩; obtain ⟨p1, m1, c1, hv1⟩ := hO6.sts.shape; subst hv1; obtain ⟨p2, m2, c2, hv2⟩ := hO6.swap.sts.shape; subst hv2; have cg6 : w6.cell? ⟨bu + 1 + 1, 2, none⟩ = some (.slice none 0 0) := (by rw [hO6.cellB (b := bu + 1 + 1) (List.mem_cons_self ..)]; rfl); have fg6 := free_at (hO6.at (b := bu + 1 + 1) (List.mem_cons_self ..)) 2; have HO6 := Lib.hid hO6; clear hO6)
            have hO7 : Own ⟨w, Blk (bu + 1 + 1) (bu + 1) bu #[.map (some bu), .map (some (bu + 1)), .slice p1 m1 c1] ob ou⟩ (w6.setCell ⟨bu + 1 + 1, 2, none⟩ (.slice p1 m1 c1)) (rowSs (.slice p1 m1 c1) (placeU us).1 :: rowSs (.slice p2 m2 c2) (placeU us).2 :: (rowsB us zs names ++ rowsAll ys us)) := by
              have h9 := HO6.out.storeB (b := bu + 1 + 1) (List.mem_cons_self ..) 2 (.slice p1 m1 c1)
              have hup : upd (Blk (bu + 1 + 1) (bu + 1) bu #[.map (some bu), .map (some (bu + 1)), .slice none 0 0] ob ou) (bu + 1 + 1) (.cells (#[Value.map (some bu), .map (some (bu + 1)), .slice none 0 0].setIfInBounds 2 (.slice p1 m1 c1)) 133) = Blk (bu + 1 + 1) (bu + 1) bu #[.map (some bu), .map (some (bu + 1)), .slice p1 m1 c1] ob ou := by
                simp [upd, Blk]
                omega
              rw [hup] at h9
              exact h9
            have HO7 := Lib.hid hO7
            clear hO7 cg6 fg6
            generalize w6.setCell ⟨bu + 1 + 1, 2, none⟩ (.slice p1 m1 c1) = w7 at *
            have hm2 : m2 = (placeU us).2.length := by
              obtain ⟨a', c', e', _⟩ := HO7.out.swap.sts
              injection e'
            have hE0 : errU us = if (placeU us).2 ≠ [] then 19 else 0 := by
              unfold errU
              rw [if_neg (by have := HF.out; omega), if_neg (by rw [Decidable.not_not]; exact HOnce.out), if_neg (by rw [HE3.out]; decide)]
            by_cases hleft : (placeU us).2 = []
            · have HE : Hid (errU us = 0) := by
                show errU us = 0
                rw [hE0, if_neg (by rw [hleft]; simp)]
              have hz : m2 = 0 := by rw [hm2, hleft]; rfl
              subst hz
              have HG : Hid (GIn (Blk (bu + 1 + 1) (bu + 1) bu #[.map (some bu), .map (some (bu + 1)), .slice p1 m1 c1] ob ou) (rowSs (.slice p1 m1 c1) (placeU us).1 :: rowSs (.slice p2 0 c2) (placeU us).2 :: (rowsB us zs names ++ rowsAll ys us)) (bu + 1 + 1) us (ordU us)) := by
                have hperm := ordU_perm HE.out
                intro W0 S' w9 L' hS' hL' hO9'
                have hO9 := hO9'.forget (S' := Blk (bu + 1 + 1) (bu + 1) bu #[.map (some bu), .map (some (bu + 1)), .slice p1 m1 c1] ob ou) hS'
                refine ⟨⟨bu, ys, Blk.us hO9 HLike.out (fun r hr => hL' r (List.mem_cons_of_mem _ (List.mem_cons_of_mem _ (List.mem_append_right _ hr)))) HMap.out⟩, ⟨bu + 1, BeAt.keys (Blk.be hO9 HLEN2.out (fun r hr => hL' r (List.mem_cons_of_mem _ (List.mem_cons_of_mem _ (List.mem_append_left _ hr)))) HMAP2.out) fun x => by rw [← HNAMES.out]; exact mem_sortN⟩, ⟨_, by rw [hO9.cellB (b := bu + 1 + 1) (List.mem_cons_self ..)]; rfl, hO9.stsMem (hL' _ (List.mem_cons_self ..))⟩, HOnce.out, by have := HF.out; omega, HS.out, HB.out, ?_, hperm, ?_⟩
                · rw [hperm.length_eq]
                  have := HF.out
                  simp [namesU]; omega
                · intro u hu y hy
                  have h1 := List.any_eq_false.1 (HBad.out ▸ HE3.out) u.name (by rw [← HNAMES.out]; exact mem_sortN.2 (mem_names.2 ⟨u, hu, rfl⟩))
                  unfold lacksU at h1
                  rw [findU_mem HOnce.out hu] at h1
                  simp only [Bool.or_eq_true, List.any_eq_true, Bool.not_eq_true', decide_eq_false_iff_not, not_or, not_exists, not_and, Decidable.not_not] at h1
                  exact hy.elim (h1.1 y) (h1.2 y)
              have HBl := Lib.hid HO7.out.below
              clear hE0 hleft hm2 kp
              go_wp2_with fail
              go_ret3
              exact NewPost2.good HE.out HO7.out HG.out HBl.out
            · have HE : Hid (errU us = 19) := by
                show errU us = 19
                rw [hE0, if_pos hleft]
              obtain ⟨n0, r0, hl0⟩ : ∃ n0 r0, (placeU us).2 = n0 :: r0 := by
                cases h : (placeU us).2 with
                | nil => exact absurd h hleft
                | cons x r => exact ⟨x, r, rfl⟩
              have hpos : 0 < m2 := by rw [hm2, hl0]; simp
              obtain ⟨g2, hform⟩ : ∃ g2, p2 = some ⟨g2, 0, none⟩ := by
                obtain ⟨g2, cap, e, _⟩ := HO7.out.swap.form (by rw [hl0]; simp)
                injection e with e _ _
                exact ⟨g2, e⟩
              subst hform
              have c0 : w7.cell? ⟨g2, 0, none⟩ = some (.string (toB n0)) := by
                have h5 := HO7.out.swap
                rw [hm2] at h5
                have := Own.str h5 0 (by rw [hl0]; simp)
                simpa [hl0] using this
              have hposi : (0 : Int) < (m2 : Int) := by omega
              have HH := Lib.hid (show (placeU us).2.head? = some n0 from by rw [hl0]; rfl)
              clear hE0 hleft hl0 hm2 kp hpos
              go_wp2_with fail
              go_quiet (fail)
              go_wp2_with fail
              go_ret3
              exact NewPost2.bad HE.out (by decide) (n := n0) (fun _ => HH.out) rfl HO7.out.drewN.below
      · rw [e2] at ki
        have HE3 := Lib.hid (show badU us = true from by rw [HBad.out]; exact List.any_eq_true.2 ⟨_, List.getElem_mem hk, e3⟩)
        have HE : Hid (errU us = 16) := by
          show errU us = 16
          unfold errU
          rw [if_neg (by have := HF.out; omega), if_neg (by rw [Decidable.not_not]; exact HOnce.out), if_pos HE3.out]
        have hk0 : (0 : Int) ≤ (k : Int) := by omega
        have hkn : (k : Int) < (nn : Int) := by rw [Hnn.out]; omega
        obtain ⟨gn, hform⟩ : ∃ gn, an = some ⟨gn, 0, none⟩ := by
          obtain ⟨gn, cap, e, _⟩ := HO5.out.form (by omega)
          injection e with e _ _
          exact ⟨gn, e⟩
        subst hform
        have ck : w4.cell? ⟨gn, k, none⟩ = some (.string (toB (sortN (namesU us))[k])) := by
          have h5 := HO5.out
          rw [Hnn.out] at h5
          exact Own.str h5 k hk
        have hlt9 := Lib.hid (World.block_lt_of_cell? w4 ⟨gn, k, none⟩ ck)
        clear e1 e2 e3
        generalize (sortN (namesU us))[k] = nm at *
        go_wp2_with (go_at_call 56; refine ki.mono ?_; rintro e w6 ⟨rfl, hb6⟩; have ck6 := (hb6.cell (p := ⟨gn, k, none⟩) hlt9.out).trans ck; have HB6 := Lib.hid hb6; clear hb6 ck)
        go_quiet (fail)
        go_wp2_with fail
        go_ret3
        exact NewPost2.bad HE.out (by decide) (n := nm) (fun h => by cases h) rfl (HO5.out.later HB6.out).drewN.below
theorem new_any {w : World} {v : Value} {us : List GU} (h : UArg w v us) (hlen : us.length ≤ 1000000) (hs : ∀ n ∈ namesU us, n.length ≤ 1000000) (hb : ∀ u ∈ us, Bnd u) :
    Calls Tryz.prog 19 #[v] w (NewPost w us) := (new_any2 h hlen hs hb).mono fun _ _ h => h.weak
end Go.Proofs.YtnjabanjgckeoaaGreatDoor
end

/- Get. -/
section
namespace Go.Proofs.YtnjabanjgckeoaaGreatDoor
open Go.RowKit
open Go.ChangeMaps (setBlock)
set_option linter.unusedVariables false
set_option linter.unusedSimpArgs false
set_option maxRecDepth 100000

theorem ret_cell_tmpG {P : Program} {fn : Func} {p u : Tmp} {ty : TypeId} (h : fn.results = #[.cell p ty, .tmp u]) {tmps : Array Value} {w : World} {b : Nat} {cs : List Value} {v : Value} {d : TypeDesc} (hp : tmps.getD p undef = .pointer (some ⟨b, 0, none⟩)) (hu : tmps.getD u undef = v)
    (hr : w.rangeAt b 0 cs) (ht : P.underlying ty = some d) (hd : d.isRow = true) (hi : (P.info? ty).map (·.size) = some cs.length) : (results fn tmps).run P w = .ok (.tuple #[.agg cs.toArray, v]) w := by
  rw [results_cell_tmp h, hp, hu]
  have e : (asAddr (.pointer (some ⟨b, 0, none⟩))).run P w = .ok ⟨b, 0, none⟩ w := rfl
  rw [e]
  simp only [Result.andThen_ok, run_loadVar_mid w b 0 ty cs d hr ht hd hi]
theorem Units.first {w : World} {y : UV} {u : GU} (h : Units w [y] [u]) : UVIs w y u := by
  cases h with
  | cons h1 _ => exact h1
set_option maxHeartbeats 2000000 in
theorem GAt.get2 {w : World} {g : Nat} {us : List GU} {ord : List Nm} (h : GAt w g us ord) (n : Nm) :
    Calls Tryz.prog 65 #[.pointer (some ⟨g, 0, none⟩), .string (toB n)] w fun e w' => ∃ y : UV, y.name = (findU us n).name ∧ y.ret = (findU us n).ret ∧ UVIs w' y (findU us n) ∧ e = .returned (.tuple #[.agg y.cells.toArray, .bool (decide (n ∈ namesU us))]) ∧ Own w w' (rows6 y (findU us n)) := by
  obtain ⟨bu, xs, hU⟩ := h.uni
  have hB0 : Below w.heap.size w (w.alloc (.cells #[.string ⟨#[]⟩, .slice none 0 0, .slice none 0 0, .slice none 0 0, .slice none 0 0, .slice none 0 0, .slice none 0 0, .int .i64 0] 64)) := (Below.refl _ w).alloc (Nat.le_refl _) _
  obtain ⟨x, hx, hl0⟩ := hU.lookup n
  have hl := hl0 _ hB0 true
  simp only [if_true] at hl
  have hc := (hU.later hB0).cell
  have hbnd : Bnd (findU us n) := by
    by_cases hn : n ∈ namesU us
    · exact h.bnd _ (findU_of h.once hn).1
    · rw [findU_none hn]; exact ⟨Nat.zero_le _, Nat.zero_le _, Nat.zero_le _, Nat.zero_le _, Nat.zero_le _, Nat.zero_le _⟩
  have O0 := (Own.start w).made_at 64 8 #[.string ⟨#[]⟩, .slice none 0 0, .slice none 0 0, .slice none 0 0, .slice none 0 0, .slice none 0 0, .slice none 0 0, .int .i64 0] 1 w.heap.size rfl rfl (by unfold maxLen; decide)
  have HO0 := Lib.hid O0
  have hone := Lib.hid hx.one
  have hcs : (Tryz.prog.info? 64).map (·.size) = some x.cells.length := info_uv
  have HX := Lib.hid hx
  have h8 := Lib.hid (show (8 : Nat) = x.cells.length from rfl)
  have KA := Lib.hid (fun W (hb : Below w.heap.size w W) => (show Calls Tryz.prog 55 #[.agg x.cells.toArray] W _ from apart_any W x (findU us n) (hx.later hb) hbnd))
  clear hl0 h hU hx hB0 hbnd O0
  unfold UV.val at hl
  generalize toB n = nb at *
  generalize decide (n ∈ namesU us) = b at *
  generalize x.cells = cs at *
  go_enter Tryz.func65, Tryz.ntmps65
  go_upto_region 2 with (refine wpList_store_new rfl 64 (.tmp 6) (.tmp 15) rfl HO0.out cs (w.heap.size + 1) (by simp) rfl rfl h8.out hcs hone.out ?_)
  intro w1 hO1 _
  have hr1 : w1.rangeAt (w.heap.size + 1) 0 cs := by
    have := hO1.range 0 cs.length
    rw [List.drop_zero, List.take_length] at this
    exact this
  have ka := KA.out w1 hO1.below
  have HO1 := Lib.hid hO1
  clear hO1 hl hc
  go_wp2_with (first
    | (refine wpList_load_mid rfl 64 (.tmp 6) rfl (w.heap.size + 1) 0 rfl cs _ hr1 Tryz.underlying64 rfl hcs ?_)
    | (go_at_call 55; refine ka.mono ?_; rintro e w2 ⟨y, rfl, _, _, hO2⟩; have HO2 := Lib.hid (HO1.out.join hO2); have Hy := Lib.hid ((show Units w2 [y] [findU us n] from Like.units hO2 (.cons ‹_› ‹_› .nil) (fun r hr => by simpa [rowsAll] using hr))); clear hO2)
    | (refine wpList_store_mid rfl 64 (.tmp 4) (.tmp 18) rfl w.heap.size 0 y.cells.toArray rfl rfl (by
        have h9 : Own w w2 (⟨64, 8, .slice (some ⟨w.heap.size, 0, none⟩) 1 1, 1, UV.zero.cells⟩ :: (rows6 y (findU us n) ++ [⟨64, cs.length, .slice (some ⟨w.heap.size + 1, 0, none⟩) 1 1, 1, cs⟩])) := HO2.out.perm (by
          have e1 : (rows6 y (findU us n) ++ [⟨64, cs.length, .slice (some ⟨w.heap.size + 1, 0, none⟩) 1 1, 1, cs⟩, ⟨64, 8, .slice (some ⟨w.heap.size, 0, none⟩) 1 1, 1, UV.zero.cells⟩]) = (rows6 y (findU us n) ++ [⟨64, cs.length, .slice (some ⟨w.heap.size + 1, 0, none⟩) 1 1, 1, cs⟩]) ++ [⟨64, 8, .slice (some ⟨w.heap.size, 0, none⟩) 1 1, 1, UV.zero.cells⟩] := by simp
          refine (List.Perm.of_eq e1).trans ?_
          exact List.perm_append_comm)
        exact h9.there 0 8 (by decide)) info_uv (by
        cases Hy.out with
        | cons h1 _ => exact all_oneCell_toArray h1.one) ?_))
  have hO3 : Own w w2 (⟨64, 8, .slice (some ⟨w.heap.size, 0, none⟩) 1 1, 1, UV.zero.cells⟩ :: (rows6 y (findU us n) ++ [⟨64, cs.length, .slice (some ⟨w.heap.size + 1, 0, none⟩) 1 1, 1, cs⟩])) := HO2.out.perm (by
    have e1 : (rows6 y (findU us n) ++ [⟨64, cs.length, .slice (some ⟨w.heap.size + 1, 0, none⟩) 1 1, 1, cs⟩, ⟨64, 8, .slice (some ⟨w.heap.size, 0, none⟩) 1 1, 1, UV.zero.cells⟩]) = (rows6 y (findU us n) ++ [⟨64, cs.length, .slice (some ⟨w.heap.size + 1, 0, none⟩) 1 1, 1, cs⟩]) ++ [⟨64, 8, .slice (some ⟨w.heap.size, 0, none⟩) 1 1, 1, UV.zero.cells⟩] := by simp
    exact (List.Perm.of_eq e1).trans List.perm_append_comm)
  have h9 := hO3.setCells y.cells 0
  rw [splice_all' UV.zero.cells y.cells rfl] at h9
  have hr9 : (w2.setCells w.heap.size 0 y.cells).rangeAt w.heap.size 0 y.cells := h9.range 0 8
  have h1y : UVIs w2 y (findU us n) := by
    cases Hy.out with
    | cons h1 _ => exact h1
  have hO6 : Own w (w2.setCells w.heap.size 0 y.cells) (rows6 y (findU us n)) := (h9.tail.perm List.perm_append_comm).tail
  refine bodyPost_ret (v := .tuple #[.agg y.cells.toArray, .bool b]) (ret_cell_tmpG Tryz.results65 rfl rfl hr9 Tryz.underlying64 rfl info_uv) rfl ?_
  exact ⟨y, h1y.name, h1y.ret, Like.units hO6 (.cons h1y.name h1y.ret .nil) (fun r hr => by simpa [rowsAll] using hr) |>.first, rfl, hO6⟩
end Go.Proofs.YtnjabanjgckeoaaGreatDoor
end

/- A table beside rows and blocks that others made: what is joined, a call while a row rests. -/
section
namespace Go.Proofs.YtnjabanjgckeoaaGreatDoor
open Go.RowKit
open Go.ChangeMaps (setBlock)
set_option linter.unusedVariables false
set_option linter.unusedSimpArgs false
set_option maxRecDepth 100000

/-- What a call made is the caller's, blocks that are known, too. -/
theorem Own.joinS {w0 w w' : World} {S S' : Blocks} {L M : List Rw} (h : Own ⟨w0, S⟩ w L) (k : Own ⟨w, S'⟩ w' M) : Own ⟨w0, S' ++ S⟩ w' (M ++ L) := by
  have k1 : Own w w' M := k.forget (S' := []) fun m hm => by cases hm
  have hj := h.join k1
  refine ⟨hj.below, hj.rows, hj.apart, fun m hm => ?_, fun m hm p hp => ?_⟩
  · rcases List.mem_append.1 hm with h1 | h1
    · exact ⟨Nat.le_trans h.size (k.maps m h1).1, (k.maps m h1).2⟩
    · exact hj.maps m h1
  · rcases List.mem_append.1 hm with h1 | h1
    · rcases List.mem_append.1 hp with h2 | h2
      · exact k.offmaps m h1 p h2
      · intro e
        have h3 := (h.lt h2 e).2
        have h4 : w.heap.size ≤ m.1 := (k.maps m h1).1
        omega
    · exact hj.offmaps m h1 p hp
section
variable {w0 w w' : World} {K K' : Blocks} {S' : Blocks} {L0 L1 M rs : List Rw} {v : Nat} {X : VX} {Y : Tab}
theorem VTX.join (h : VTX w0 K L0 v X Y rs w) (k : Own ⟨w, S'⟩ w' M) : VTX w0 (S' ++ K) (M ++ L0) v X Y rs w' := by
  obtain ⟨S, R, L, T, h0, h1, h2, h3, h4, h5⟩ := h
  have hO : Own ⟨w0, S' ++ S⟩ w' (rs ++ (R ++ (M ++ L))) := (h0.joinS k).perm (by
    have e1 : (M ++ (rs ++ (R ++ L))).Perm ((rs ++ (R ++ L)) ++ M) := List.perm_append_comm
    refine e1.trans ?_
    rw [List.append_assoc, List.append_assoc]
    exact (List.Perm.append_left _ (List.Perm.append_left _ List.perm_append_comm)))
  have hin : ∀ b x, (b, x) ∈ S → (b, x) ∈ S' ++ S := fun b x hx => List.mem_append_right _ hx
  have hnew : ∀ b x, (b, x) ∈ S' → w.heap.size ≤ b := fun b x hx => (k.maps _ hx).1
  refine ⟨S' ++ S, R, M ++ L, T, hO, ?_, h2.mono (fun b x _ hx => hin b x hx) (fun x hx => List.mem_append_right _ hx), h3, fun x hx => ?_, fun b x hb => ?_⟩
  · exact { h1 with
      own := hO.under
      tree := h1.tree.mono (fun b x _ hx => hin b x hx) (fun _ _ hh => hh.mono fun x hx => List.mem_append_right _ hx)
      cells := hin _ _ h1.cells
      map := by
        obtain ⟨o, m1, m2⟩ := h1.map
        exact ⟨o, hin _ _ m1, m2⟩ }
  · rcases List.mem_append.1 hx with hx | hx
    · exact List.mem_append_left _ hx
    · exact List.mem_append_right _ (h4 x hx)
  · rcases List.mem_append.1 hb with hb | hb
    · have hl := hnew b x hb
      exact ⟨List.mem_append_left _ hb, fun hx => (by have := (h1.lt hx).2; omega), fun hx => (by have := h2.lt h1.ownL _ hx; omega)⟩
    · obtain ⟨q1, q2, q3⟩ := h5 b x hb
      exact ⟨hin b x q1, q2, q3⟩
theorem VTX.newK (h : VTX w0 K L0 v X Y rs w) (o : Obj) : VTX w0 ((w.heap.size, o) :: K) L0 v X Y rs (w.alloc o) := by
  have := h.join (M := []) ((Own.start w).newB o)
  exact this
theorem VTX.below (h : VTX w0 K L0 v X Y rs w) : Below w0.heap.size w0 w := h.vt.below
theorem VTX.cellK (h : VTX w0 K L0 v X Y rs w) {b : Nat} {x : Obj} (hb : (b, x) ∈ K) : w.heap[b]? = some x := h.vt.cellK hb
theorem VTX.lenT {e size n : Nat} {vv : Value} {xs : List Value} (h : VTX w0 K L0 v X Y (⟨e, size, vv, n, xs⟩ :: rs) w) : xs.length = n * size := by
  obtain ⟨S, N, hO, _, _⟩ := h.grow
  exact Own.len (h := (show Own _ w (⟨e, size, vv, n, xs⟩ :: (rs ++ N)) from hO))
/-- What lies in known blocks and rows. -/
theorem VTX.ownK (h : VTX w0 K L0 v X Y rs w) : ∃ L, Own ⟨w0, K⟩ w L ∧ ∀ x ∈ L0, x ∈ L := by
  obtain ⟨S, R, L, T, h0, h1, h2, h3, h4, h5⟩ := h
  exact ⟨L, h1.ownL.forget fun m hm => (h5 m.1 m.2 hm).1, h4⟩
theorem VTX.sts (h : VTX w0 K L0 v X Y rs w) {hv : Value} {fs : List Nm} (hr : rowSs hv fs ∈ L0) : Sts w hv fs := by
  obtain ⟨L, hO, hs⟩ := h.ownK
  exact hO.stsMem (hs _ hr)
end
section
variable {w0 w w' : World} {K : Blocks} {L0 rs : List Rw} {v e size n : Nat} {X : VX} {Y : Tab} {vv : Value} {xs : List Value}
/-- A call of the table, or of the volume, while a row rests. -/
theorem VTX.call1 {α : Type} {f : FuncId} {args : Array Value} {P : α → Ending → Prop} {X' : α → VX} {Y' : α → Tab} (h : VTX w0 K L0 v X Y [⟨e, size, vv, n, xs⟩] w)
    (hc : ∀ K' : Blocks, (∀ b x, (b, x) ∈ K → (b, x) ∈ K') → VT w0 K' L0 v X Y w → Calls Tryz.prog f args w fun r w' => ∃ a, P a r ∧ VT w0 K' L0 v (X' a) (Y' a) w') :
    Calls Tryz.prog f args w fun r w' => ∃ a, P a r ∧ VTX w0 K L0 v (X' a) (Y' a) [⟨e, size, vv, n, xs⟩] w' := by
  have hl := h.lenT
  rcases VTX.freeze (show VTX w0 K L0 v X Y (⟨e, size, vv, n, xs⟩ :: []) w from h) with ⟨e1, e2, e3, h2⟩ | ⟨g, cap, cur, e1, k1, k2, k3, k4, _, h2, hne⟩
  · refine (hc K (fun b x hb => hb) h2.vt).mono fun r w' hh => ?_
    obtain ⟨a, h3, h4⟩ := hh
    subst e1 e2 e3
    exact ⟨a, h3, h4.vtx.nilrow _ _⟩
  · refine (hc _ (fun b x hb => List.mem_cons_of_mem _ hb) h2.vt).mono fun r w' hh => ?_
    obtain ⟨a, h3, h4⟩ := hh
    subst e1
    exact ⟨a, h3, h4.vtx.thaw hne k1 k2 k3 k4 hl⟩
end
/-- A graph beside known blocks and rows. -/
def GK (w0 : World) (K : Blocks) (L0 : List Rw) (g : Nat) (us : List GU) (ord : List Nm) : Prop := ∀ (K' : Blocks) (w' : World) (L' : List Rw), (∀ m ∈ K, m ∈ K') → (∀ r ∈ L0, r ∈ L') → Own ⟨w0, K'⟩ w' L' → GAt w' g us ord
theorem GK.at {w0 w : World} {K : Blocks} {L0 rs : List Rw} {v g : Nat} {X : VX} {Y : Tab} {us : List GU} {ord : List Nm} (k : GK w0 K L0 g us ord) (h : VTX w0 K L0 v X Y rs w) : GAt w g us ord := by
  obtain ⟨L, hO, hs⟩ := h.ownK
  exact k K w L (fun _ h => h) hs hO
theorem GK.mono {w0 : World} {K K' : Blocks} {L0 L1 : List Rw} {g : Nat} {us : List GU} {ord : List Nm} (k : GK w0 K L0 g us ord) (hK : ∀ m ∈ K, m ∈ K') (hL : ∀ r ∈ L0, r ∈ L1) : GK w0 K' L1 g us ord :=
  fun K2 w' L' h1 h2 hO => k K2 w' L' (fun m hm => h1 m (hK m hm)) (fun r hr => h2 r (hL r hr)) hO
theorem GAt.gk {w0 : World} {g : Nat} {us : List GU} {ord : List Nm} (h : GAt w0 g us ord) : GK w0 [] [] g us ord := fun _ _ _ _ _ hO => h.later hO.below
theorem GIn.gk {w0 : World} {S : Blocks} {L : List Rw} {g : Nat} {us : List GU} {ord : List Nm} (h : GIn S L g us ord) : GK w0 S L g us ord := fun K' w' L' h1 h2 hO => h w0 K' w' L' h1 h2 hO
end Go.Proofs.YtnjabanjgckeoaaGreatDoor
end
