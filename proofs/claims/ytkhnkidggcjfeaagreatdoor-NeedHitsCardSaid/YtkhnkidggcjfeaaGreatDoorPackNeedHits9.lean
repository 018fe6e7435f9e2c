/- Texts one behind the other, each in a section of its own: what calls make of memory, step by step. -/
import Derived.Test.YtkhnkidggcjfeaaGreatDoorPackNeedHits8
import Derived.Deep.Slices
import Derived.Lib.SmallJoins
import Derived.WideShapes
import Derived.DeepKeys
import Derived.Lib.SlBytesConst
set_option linter.unusedVariables false
set_option linter.unusedSimpArgs false
set_option maxRecDepth 100000
section
namespace Go.Proofs.YtkhnkidggcjfeaaGreatDoor
open Go.RowKit
/-! ### Sectors are compared -/
def byteSec (s : List Value) : Prop := ∀ v ∈ s, ∃ n : Int, v = .int .u8 n ∧ (Lit.int .u8 n).wf = true
theorem byteSec_bs (l : List Int) (h : Byts l) : byteSec (bs l) := by
  intro v hv
  obtain ⟨z, hz, rfl⟩ := List.mem_map.1 hv
  have h1 : IntKind.u8.min = 0 := rfl
  have h2 : IntKind.u8.max = 255 := rfl
  have := h z hz
  exact ⟨z, rfl, by simp only [Lit.wf, Bool.and_eq_true, decide_eq_true_eq]; omega⟩
theorem keyT : Tryz.prog.keyTypeAt 2 150 = true := by kernel_rfl
theorem cellsS : Tryz.prog.cellsOf 150 = 64 := by kernel_rfl
theorem cellsB : Tryz.prog.cellsOf 5 = 1 := by kernel_rfl
theorem mapM_lits (s : List Value) (hs : byteSec s) (d : Nat) : ∀ n, n ≤ s.length → ((List.range n).mapM fun i => Tryz.prog.keyLits (d + 1) 5 ((s.drop (i * 1)).take 1)) = some ((List.range n).map fun i => [Lit.int .u8 (intOf (s.getD i undef))]) := by
  intro n hn
  refine Go.ChangeShapes.mapM_range_of n fun i hi => ?_
  have hi' : i < s.length := by omega
  obtain ⟨m, hm, hw⟩ := hs s[i] (List.getElem_mem _)
  have e : (s.drop (i * 1)).take 1 = [s[i]] := by
    rw [Nat.mul_one, List.drop_eq_getElem_cons hi']; rfl
  rw [e, hm]
  unfold Program.keyLits
  rw [Tryz.underlying5]
  simp only [hw, and_self, if_true, List.getD_eq_getElem?_getD, List.getElem?_eq_getElem hi', Option.getD_some, hm, intOf]
theorem flat_single {α β : Type} (f : α → β) : ∀ l : List α, (l.map fun i => [f i]).flatten = l.map f
  | [] => rfl
  | a :: l => by rw [List.map_cons, List.flatten_cons, flat_single f l]; rfl
theorem lits_of (s : List Value) (hs : byteSec s) (h64 : s.length = 64) : Tryz.prog.keyLits 2 150 s = some ((List.range 64).map fun i => Lit.int .u8 (intOf (s.getD i undef))) := by
  rw [← flat_single]
  unfold Program.keyLits
  rw [Tryz.underlying150]
  simp only [cellsS, h64, if_true]
  rw [cellsB, mapM_lits s hs 0 64 (by omega)]
  rfl
theorem eqSec (a b : List Int) (ha : Byts a) (hb : Byts b) (la : a.length = 64) (lb : b.length = 64) (w : World) : (Op.equalIn 10000 150 (.agg (bs a).toArray) (.agg (bs b).toArray)).run Tryz.prog w = .ok (decide (a = b)) w := by
  have hf : ∀ s : List Value, s.length = 64 → (Value.agg s.toArray).formed Tryz.prog 150 = true := by
    intro s h64
    unfold Value.formed
    rw [Tryz.underlying150]
    simp [cellsS, h64]
  have la' : (bs a).length = 64 := by rw [bs_length, la]
  have lb' : (bs b).length = 64 := by rw [bs_length, lb]
  obtain ⟨r, hr, hiff⟩ := run_equalIn_deep 9998 2 150 keyT w 2 2 _ _ _ _ (hf (bs a) la') (hf (bs b) lb') (by simpa [Value.cells] using lits_of (bs a) (byteSec_bs a ha) la') (by simpa [Value.cells] using lits_of (bs b) (byteSec_bs b hb) lb')
  have e : r = decide (a = b) := by
    rw [Bool.eq_iff_iff, hiff, decide_eq_true_iff]
    constructor
    · intro h
      apply List.ext_getElem (by omega)
      intro i h1 h2
      have := congrArg (fun l => l[i]?) h
      simp [la] at this
      have h64 : i < 64 := by omega
      simp [h64, h1, h2, bs, intOf] at this
      exact this
    · rintro rfl; rfl
  rw [e] at hr
  exact hr
/-! ### A sector is taken apart -/
theorem Own.secBy {W0 : Base} {w : World} {g : Nat} {z : List Int} {L : List Rw} (h : Own W0 w L) (hm : rowSec g (bs z) ∈ L) (hl : z.length = 64) (hz : Byts z) : By w (.slice (some ⟨g, 0, none⟩) 64 64) z := by
  obtain ⟨r1, _⟩ := sec_cells h hm (by rw [bs_length, hl])
  refine ⟨?_, hz, _, 64, by rw [hl], by omega, by unfold maxLen; decide⟩
  rw [hl]
  refine .inr ⟨_, 64, rfl, fun j u hj => ?_, bs_one _⟩
  rw [Addr.add_mid]
  exact r1 j u hj
theorem rootOf_facts {W0 : Base} {wB : World} {H H6 r : Nat} {v v3 : Value} {z : List Int} {zv : List Value} {side used : Int} (hO : Own W0 wB (rowRoot H6 side used :: rowR r v false :: (rowU v3 z :: [rowRoot (H + 1) 0 0, rowSec H zv]))) (hzl : zv.length = 64) :
    okSec wB (.pointer (some ⟨H, 0, none⟩)) ∧ secOf wB (.pointer (some ⟨H, 0, none⟩)) = .agg zv.toArray ∧ wB.cell? ⟨H + 1, 0, none⟩ = some (.int .i64 0) ∧ wB.cell? ⟨H + 1, 1, none⟩ = some (.int .i64 0) ∧ wB.frozen? ⟨H + 1, 0, none⟩ = false ∧ wB.frozen? ⟨H + 1, 1, none⟩ = false ∧
    okSec ((wB.setCell ⟨H + 1, 0, none⟩ (.int .i64 side)).setCell ⟨H + 1, 1, none⟩ (.int .i64 used)) (.pointer (some ⟨H, 0, none⟩)) ∧ secOf ((wB.setCell ⟨H + 1, 0, none⟩ (.int .i64 side)).setCell ⟨H + 1, 1, none⟩ (.int .i64 used)) (.pointer (some ⟨H, 0, none⟩)) = .agg zv.toArray ∧
    ((wB.setCell ⟨H + 1, 0, none⟩ (.int .i64 side)).setCell ⟨H + 1, 1, none⟩ (.int .i64 used)).rangeAt (H + 1) 0 [.int .i64 side, .int .i64 used] ∧ Below W0.world.heap.size W0.world ((wB.setCell ⟨H + 1, 0, none⟩ (.int .i64 side)).setCell ⟨H + 1, 1, none⟩ (.int .i64 used)) := by
  obtain ⟨ra, _⟩ := sec_cells hO (g := H) (s := zv) (by simp) hzl
  obtain ⟨b0, b1⟩ := root_cells hO (g := H + 1) (a := 0) (b := 0) (by simp)
  have h1 := hO.only (show rowRoot (H + 1) 0 0 ∈ _ by simp)
  have hp : Own W0 wB (rowRoot (H + 1) 0 0 :: [rowSec H zv, rowRoot H6 side used, rowR r v false, rowU v3 z]) := hO.perm (by
    have h2 := List.perm_append_comm (l₁ := [rowRoot H6 side used, rowR r v false, rowU v3 z]) (l₂ := [rowRoot (H + 1) 0 0, rowSec H zv])
    exact h2)
  have hC : Own W0 ((wB.setCell ⟨H + 1, 0, none⟩ (.int .i64 side)).setCell ⟨H + 1, 1, none⟩ (.int .i64 used)) (rowRoot (H + 1) side used :: [rowSec H zv, rowRoot H6 side used, rowR r v false, rowU v3 z]) := Own.set (h := (Own.set (h := hp) 0 (.int .i64 side))) 1 (.int .i64 used)
  obtain ⟨rc, _⟩ := sec_cells hC (g := H) (s := zv) (by simp) hzl
  have hr : ((wB.setCell ⟨H + 1, 0, none⟩ (.int .i64 side)).setCell ⟨H + 1, 1, none⟩ (.int .i64 used)).rangeAt (H + 1) 0 [.int .i64 side, .int .i64 used] := by
    have := Own.range (h := hC) 0 2
    exact this
  exact ⟨(sec_is ra hzl).1, (sec_is ra hzl).2, b0, b1, Own.free (h := h1) 0, Own.free (h := h1) 1, (sec_is rc hzl).1, (sec_is rc hzl).2, hr, hC.below⟩
attribute [local go_sem ↓] wp_load_sec Go.wp_at_zero Go.wp_at_succ
set_option maxHeartbeats 3200000 in
set_option maxRecDepth 100000 in
theorem rootOf_any (z : List Int) (hz : Byts z) (hl : z.length = 64) (h1 : isSized z 11) (side used : Nat) (h2 : 4 ≤ (restOf z).length) (h2' : num4 (restOf z) = side) (h3 : 4 ≤ ((restOf z).drop 4).length) (h3' : num4 ((restOf z).drop 4) = used) (hs : side ≤ 1) (hu : used ≤ 4096) (w : World) :
    Calls Tryz.prog 75 #[.agg (bs z).toArray] w fun e w' => e = .returned (.tuple #[.agg #[.int .i64 side, .int .i64 used], .bool (decide (z = rootB side used))]) ∧ Below w.heap.size w w' := by
  have hzr := zero_root
  have hl' : (bs z).length = 64 := by rw [bs_length, hl]
  have hO := ((Own.start w).sec (bs z) hl' w.heap.size rfl).root 0 0
  have HO := Lib.hid (show Own w _ [rowRoot (w.heap.size + 1) 0 0, rowSec w.heap.size (bs z)] by simpa using hO)
  have Hz := Lib.hid hz
  have Hl := Lib.hid hl
  have Hl' := Lib.hid hl'
  have H1 := Lib.hid h1
  have H2 := Lib.hid (show 4 ≤ (restOf z).length ∧ num4 (restOf z) ≤ 1 from ⟨h2, by rw [h2']; omega⟩)
  have H2' := Lib.hid h2'
  have H3 := Lib.hid (show 4 ≤ ((restOf z).drop 4).length ∧ num4 ((restOf z).drop 4) ≤ 4096 from ⟨h3, by rw [h3']; omega⟩)
  have H3' := Lib.hid h3'
  have hEq := eqSec z (rootB side used) hz (rootB_byts side used hs hu) hl (rootB_length side used)
  have HEq := Lib.hid hEq
  have h64 : z.length ≤ 140737488355328 := by omega
  have H64 := Lib.hid h64
  clear hO hz hl hl' h1 h2 h2' h3 h3' hEq h64
  go_enter Tryz.func75, Tryz.ntmps75
  go_wp2_with fail
  refine (rread_any (.slice (some ⟨w.heap.size, 0, none⟩) 64 64) z _ (HO.out.secBy (by simp) Hl.out Hz.out) H64.out).mono ?_
  rintro e w3 ⟨r, v3, rfl, hO3, hp3⟩
  have HO3 := Lib.hid (HO.out.join hO3)
  have HP3 := Lib.hid (hp3.mono (fun x hx => by rw [List.mem_singleton.1 hx]; exact List.mem_cons_self ..) : Pc (rowU v3 z :: [rowRoot (w.heap.size + 1) 0 0, rowSec w.heap.size (bs z)]) v3 z)
  clear hO3 hp3 HO
  go_wp2_with fail
  refine (rtext_yes w w3 r v3 false _ z 11 HO3.out HP3.out H1.out).mono ?_
  rintro e w4 ⟨v4, rfl, hO4, hp4⟩
  have HO4 := Lib.hid hO4
  have HP4 := Lib.hid hp4
  clear hO4 hp4 HO3 HP3
  go_wp2_with fail
  refine (rnum_any w w4 r v4 false _ (restOf z) 1 HO4.out HP4.out H2.out).mono ?_
  rintro e w5 ⟨v5, rfl, hO5, hp5⟩
  rw [H2'.out]
  have HO5 := Lib.hid hO5
  have HP5 := Lib.hid hp5
  clear hO5 hp5 HO4 HP4
  go_wp2_with fail
  refine (rnum_any w w5 r v5 false _ ((restOf z).drop 4) 4096 HO5.out HP5.out H3.out).mono ?_
  rintro e w6 ⟨v6, rfl, hO6, hp6⟩
  rw [H3'.out]
  have HO6 := Lib.hid hO6
  clear hO6 hp6 HO5 HP5
  go_wp2_with fail
  have HOA := Lib.hid (HO6.out.root side used)
  have hEq := HEq.out
  have hzl := Hl'.out
  clear HO6
  generalize hH6 : w6.heap.size = H6 at *
  have HH6 := Lib.hid hH6
  clear hH6
  generalize w6.alloc (.cells #[.int .i64 (side : Int), .int .i64 (used : Int)] 154) = wA at *
  obtain ⟨H, hH⟩ : ∃ H, w.heap.size = H := ⟨_, rfl⟩
  rw [hH] at HOA ⊢
  obtain ⟨a0, a1⟩ := root_cells HOA.out (g := H6) (a := side) (b := used) (by simp)
  obtain ⟨ra, _⟩ := sec_cells HOA.out (g := H) (s := bs z) (by simp) hzl
  have qa1 := (sec_is (w := wA) ra hzl).1
  have qa2 := (sec_is (w := wA) ra hzl).2
  have qb1 : okSec wA.drew (.pointer (some ⟨H, 0, none⟩)) := (sec_is (w := wA.drew) ra hzl).1
  have qb2 : secOf wA.drew (.pointer (some ⟨H, 0, none⟩)) = .agg (bs z).toArray := (sec_is (w := wA.drew) ra hzl).2
  have HH := Lib.hid hH
  clear ra hH
  obtain ⟨zv, hzv⟩ : ∃ zv, bs z = zv := ⟨_, rfl⟩
  obtain ⟨rb, hrb⟩ : ∃ rb, bs (rootB side used) = rb := ⟨_, rfl⟩
  have HZV := Lib.hid hzv
  have HRB := Lib.hid hrb
  rw [hzv] at hEq qa2 qb2 hzl HOA ⊢
  rw [hrb] at hEq
  clear hzv hrb
  obtain ⟨dec, hdec⟩ : ∃ dec, decide (z = rootB side used) = dec := ⟨_, rfl⟩
  rw [hdec] at hEq
  have HD := Lib.hid hdec
  clear hdec HEq
  have hir : (Tryz.prog.info? 154).map (·.size) = some [Value.int .i64 (side : Int), .int .i64 (used : Int)].length := info_root
  go_region_with (first
    | (go_at_call 121; refine (sector_any side used _ hs hu).mono ?_; rintro e w7 ⟨rfl, hb7⟩; rw [HRB.out]; (first | have hO7 := HOA.out.later hb7 | have hO7 := HOA.out.drew.later hb7); obtain ⟨e1, e2⟩ := root_cells hO7 (g := H6) (a := side) (b := used) (by simp); obtain ⟨k1, k2, k3, k4, k5, k6, k7, k8, k9, k10⟩ := rootOf_facts hO7 hzl; clear hb7))
  all_goals have HB := Lib.hid k10
  all_goals clear k1 k2 k3 k4 k5 k6 k7 k8 k10 hO7
  all_goals go_wp2_with fail
  all_goals refine bodyPost_ret (v := .tuple #[.agg [Value.int .i64 (side : Int), .int .i64 (used : Int)].toArray, .bool dec]) (ret_cell_tmp Tryz.results75 rfl rfl k9 Tryz.underlying154 rfl hir) rfl ?_
  all_goals exact ⟨by rw [HD.out], HB.out⟩
end Go.Proofs.YtkhnkidggcjfeaaGreatDoor
end
section
namespace Go.Proofs.YtkhnkidggcjfeaaGreatDoor
open Go.RowKit
def fillB (ss : List (List Int)) (i : Nat) : List Int := ((ss.take i).map (·.take 63)).flatten ++ List.replicate ((ss.length - i) * 63) 0
def bytesB (ss : List (List Int)) : List Int := (ss.map (·.take 63)).flatten
/-! The store of a sector into a variable, as a rule for a region that draws its order. -/
def okSt (w : World) (x y : Value) : Prop := ∃ (b : Nat) (s : List Value), x = .pointer (some ⟨b, 0, none⟩) ∧ y = .agg s.toArray ∧ isSec s ∧ w.there b 0 64
def stW (w : World) (x y : Value) : World := match x with
  | .pointer (some ⟨b, o, _⟩) => w.setCells b o y.cells.toList
  | _ => w
theorem wp_store_sec {dd : Option Tmp} {x y : Operand} {ty : TypeId} {ps : String} {af : Array Edge} {gd : Option (Nat × Bool)} {a : Act} {w : World} {K : Act → World → Prop} {Q : Exit → Act → World → Prop} (h : okSt w (a.eval x) (a.eval y)) :
    Oper.wp Tryz.prog ⟨dd, .store 150 x y, ty, ps, af, gd⟩ a w K Q = K (a.put dd undef) (stW w (a.eval x) (a.eval y)) := by
  obtain ⟨b, s, hx, hy, hs, ht⟩ := h
  have hr := run_storeAt_mid (P := Tryz.prog) w b 0 150 s.toArray (by simpa [hs.1] using ht) (by simpa [hs.1] using info_sector) (all_oneCell_toArray hs.2)
  unfold Oper.wp execOp
  simp only [hx, hy, Sem.run_bind, hr, Result.andThen_ok, Sem.run_pure]
  rfl
attribute [local go_sem ↓] wp_store_sec Go.wp_at_zero Go.wp_at_succ
end Go.Proofs.YtkhnkidggcjfeaaGreatDoor
end
section
namespace Go.Proofs.YtkhnkidggcjfeaaGreatDoor
open Go.RowKit
/-! ### A record's sectors as bytes: plain data -/
def zed (b : List Int) : List Int := (cutB (recB b) 0).take 63
end Go.Proofs.YtkhnkidggcjfeaaGreatDoor
end
section
namespace Go.Proofs.YtkhnkidggcjfeaaGreatDoor
open Go.RowKit
theorem roomM_pos (n : Nat) : 1 ≤ roomM n := by unfold roomM; omega
theorem recs_le (recs : List (List Int)) : recs.length ≤ (secsB recs).length := by
  induction recs with
  | nil => simp
  | cons b r ih =>
    have h : secsB (b :: r) = layB b ++ secsB r := by simp [secsB]
    rw [h, List.length_append, layB_length, List.length_cons]
    have := roomM_pos b.length
    omega
end Go.Proofs.YtkhnkidggcjfeaaGreatDoor
end
section
namespace Go.Proofs.YtkhnkidggcjfeaaGreatDoor
open Go.RowKit
def z64 : List Int := List.replicate 64 0
theorem z64_byts : Byts z64 := zeros_byts 64
theorem eqZ (w : World) : (Op.equalIn 10000 150 (.agg zSec.toArray) (.agg zSec.toArray)).run Tryz.prog w = .ok true w := by
  have := eqSec z64 z64 z64_byts z64_byts rfl rfl w
  rw [decide_eq_true rfl] at this
  exact this
set_option maxHeartbeats 3200000 in
set_option maxRecDepth 100000 in
theorem blank_any {W0 : Base} {w : World} {d n : Nat} {D : Dk} {L : List Rw} (h : DkAt W0 w d D L) (hup : D.down = false) (hn : D.last = List.replicate n zSec) :
    Calls Tryz.prog 77 #[.pointer (some ⟨d, 0, none⟩)] w fun e w' => e = .returned (.bool true) ∧ Below w.heap.size w w' := by
  have hl : D.last.length = n := by rw [hn, List.length_replicate]
  have hm := h.ok.le
  rw [hl] at hm
  have hlen := len_any W0 w d D L h
  rw [hl] at hlen
  have Hlen := Lib.hid hlen
  have hrd : ∀ i : Nat, i < n → (readM D (i : Int)).1 = zSec ∧ (readM D (i : Int)).2 = 0 := by
    intro i hi
    have hr0 : refusedM D (i : Int) = 0 := by unfold refusedM; rw [hup, if_neg (by decide), if_neg (by omega)]
    unfold readM
    rw [hr0]
    refine ⟨?_, rfl⟩
    show D.last.getD i [] = _
    rw [List.getD_eq_getElem?_getD, hn, List.getElem?_replicate, if_pos hi]; rfl
  have Hrd := Lib.hid hrd
  have H := Lib.hid h
  have hzs := zero_sector
  have hEq := eqZ
  have hb := built_sector
  have hz2 : (Tryz.prog.info? 150).map (·.size) = some zSec.length := info_sector
  clear h hlen hrd hn hl hup
  go_enter Tryz.func77, Tryz.ntmps77
  go_wp2_with fail
  refine Hlen.out.mono ?_
  rintro e w' ⟨rfl, rfl⟩
  go_wp2_with fail
  go_loopw [8] (fun t wr => ∃ (i : Nat), i ≤ n ∧ t = .int .i64 i ∧ Below w.heap.size w wr) (fun t _ => n - (intOf t).toNat)
  case atStart => exact ⟨0, Nat.zero_le _, rfl, Below.refl _ _⟩
  case round =>
    obtain ⟨i, hi, rfl, hbw⟩ := hrel
    by_cases hlt : i < n
    · have HA := Lib.hid (H.out.later hbw)
      have Hbw := Lib.hid hbw
      obtain ⟨r1, r2⟩ := Hrd.out i hlt
      have R1 := Lib.hid r1
      have R2 := Lib.hid r2
      clear hbw r1 r2
      go_wp2_with fail
      refine (read_any W0 wr d D L (i : Int) HA.out).mono ?_
      rintro e w2 ⟨rfl, hb2⟩
      rw [R1.out, R2.out]
      have HO2 := Lib.hid (Own.start w2)
      have Hb2 := Lib.hid (Hbw.out.trans (hb2.mono Hbw.out.size))
      clear hb2 HA Hbw
      go_wp2_with (refine wpList_store_new rfl 150 (.tmp 4) (.tmp 15) rfl HO2.out zSec w2.heap.size rfl rfl rfl rfl hz2 zSec_sec.2 ?_)
      intro w3 hO3 _
      have cr : w3.rangeAt w2.heap.size 0 zSec := by
        have := hO3.range 0 zSec.length
        rw [List.drop_zero, List.take_length] at this
        exact this
      have Hb3 := Lib.hid (Hb2.out.trans (hO3.below.mono Hb2.out.size))
      clear hO3
      go_wp2_with (first
        | (refine wpList_load_mid rfl 150 (.tmp 4) rfl w2.heap.size 0 rfl zSec _ cr Tryz.underlying150 rfl hz2 ?_)
        | (refine wpList_build rfl 150 #[] rfl [] rfl _ hb ?_))
      exact ⟨⟨i + 1, by omega, by go_num, Hb3.out⟩, by simp [intOf]; omega⟩
    · obtain rfl : i = n := by omega
      have Hbw := Lib.hid hbw
      clear hbw
      go_wp2_with fail
      go_ret
      exact ⟨rfl, Hbw.out⟩
/-! ### What the root's sector is taken for -/
theorem rootB_form (side used : Nat) : rootB side used = sizedL (sb markS) ++ (le4 side ++ (le4 used ++ (le4 (crcI (rootH side used)) ++ List.replicate 37 0))) := by
  unfold rootB padTo
  rw [rootR_length]
  show rootR side used ++ List.replicate 37 0 = _
  unfold rootR
  conv => lhs; lhs; lhs; unfold rootH
  simp only [List.append_assoc, List.append_nil, List.nil_append]
theorem z64_parts : isSized z64 11 ∧ 4 ≤ (restOf z64).length ∧ num4 (restOf z64) = (0 : Nat) ∧ 4 ≤ ((restOf z64).drop 4).length ∧ num4 ((restOf z64).drop 4) = (0 : Nat) := by
  unfold isSized
  decide +kernel
theorem z64_no : z64 ≠ rootB 0 0 := by
  intro e
  have := congrArg (fun l => l[0]?) e
  rw [rootB_form] at this
  have h2 : (some 0 : Option Int) = some 11 := this
  cases h2
end Go.Proofs.YtkhnkidggcjfeaaGreatDoor
end
section
namespace Go.Proofs.YtkhnkidggcjfeaaGreatDoor
open Go.RowKit
theorem built_log (d : Nat) : Tryz.prog.built 156 [(0, .pointer (some ⟨d, 0, none⟩))] = some #[.pointer (some ⟨d, 0, none⟩), .int .i64 0, .int .i64 0, .slice none 0 0, .bool false] := by kernel_rfl
theorem built_root0 : Tryz.prog.built 154 [] = some #[.int .i64 0, .int .i64 0] := by kernel_rfl
theorem DkAt.log {W0 : Base} {w : World} {d : Nat} {D : Dk} {L : List Rw} (h : DkAt W0 w d D L) : DkAt W0 (w.alloc (.cells #[.pointer (some ⟨d, 0, none⟩), .int .i64 0, .int .i64 0, .slice none 0 0, .bool false] 156)) d D (rowLog w.heap.size d 0 0 (.slice none 0 0) false :: L) := by
  obtain ⟨R, h1, h2⟩ := h.open
  have h3 := h1.made 156 5 #[.pointer (some ⟨d, 0, none⟩), .int .i64 0, .int .i64 0, .slice none 0 0, .bool false] 1 rfl (by unfold maxLen; decide)
  exact h2 _ (rowLog w.heap.size d 0 0 (.slice none 0 0) false :: L) (h3.perm List.perm_middle.symm)
theorem LgAt.fresh {W0 : Base} {w : World} {l d : Nat} {D : Dk} {L : List Rw} (h : DkAt W0 w d D (rowLog l d 0 0 (.slice none 0 0) false :: L)) (h6 : 6 ≤ D.last.length) : LgAt W0 w l d D 0 0 [] false L := by
  refine ⟨h6, by decide, Nat.zero_le _, .slice none 0 0, [], [], ?_, Lst.nil _⟩
  obtain ⟨R, h1, h2⟩ := h.open
  refine (h2 _ (rowV (.slice none 0 0) [] :: (rowLog l d 0 0 (.slice none 0 0) false :: L)) ?_).perm (List.Perm.swap _ _ _)
  exact ((h1.nil 38 1) : Own W0 _ (rowV (.slice none 0 0) [] :: _)).perm List.perm_middle.symm
set_option maxHeartbeats 3200000 in
set_option maxRecDepth 100000 in
theorem open_blank {W0 : Base} {w : World} {d n : Nat} {D : Dk} {L : List Rw} (hA : DkAt W0 w d D L) (hup : D.down = false) (hn : D.last = List.replicate n zSec) (h6 : 6 ≤ n) (hc : Clean D) (hst : D.steps ≤ 4611686018427000000) (he : (keepM D ((n - 2) / 2) 0 0 []).2 = 0) :
    Calls Tryz.prog 43 #[.pointer (some ⟨d, 0, none⟩)] w fun e w' => ∃ l, e = .returned (.tuple #[.pointer (some ⟨l, 0, none⟩), .int .i64 0]) ∧ LgAt W0 w' l d (keepM D ((n - 2) / 2) 0 0 []).1 0 0 [] false L := by
  have hln : D.last.length = n := by rw [hn, List.length_replicate]
  have hm := hA.ok.le
  rw [hln] at hm
  have hlen := len_any W0 w d D L hA
  rw [hln] at hlen
  have hrd : (readM D 0).1 = zSec ∧ (readM D 0).2 = 0 := by
    have hr0 : refusedM D 0 = 0 := by unfold refusedM; rw [hup, if_neg (by decide), if_neg (by omega)]
    unfold readM
    rw [hr0]
    refine ⟨?_, rfl⟩
    show D.last.getD 0 [] = _
    rw [List.getD_eq_getElem?_getD, hn, List.getElem?_replicate, if_pos (by omega)]; rfl
  obtain ⟨p1, p2, p3, p4, p5⟩ := z64_parts
  have hro := rootOf_any z64 z64_byts rfl p1 0 0 p2 p3 p4 p5 (by decide) (by decide)
  rw [decide_eq_false z64_no] at hro
  have hro : ∀ w, Calls Tryz.prog 75 #[.agg zSec.toArray] w fun e w' => e = .returned (.tuple #[.agg #[.int .i64 0, .int .i64 0], .bool false]) ∧ Below w.heap.size w w' := hro
  have hkl := keepM_len D hc hup hA.ok.left0 ((n - 2) / 2) 0 0 [] (by rw [hln]; exact h6) (by rw [hln]) (by decide) (Nat.zero_le _)
  have R1 := Lib.hid hrd.1
  have R2 := Lib.hid hrd.2
  have Hro := Lib.hid hro
  have HA := Lib.hid hA
  have Hup := Lib.hid hup
  have Hlen := Lib.hid hlen
  have Hln := Lib.hid hln
  have Hn := Lib.hid hn
  have Hc := Lib.hid hc
  have Hst := Lib.hid hst
  have He := Lib.hid he
  have Hkl := Lib.hid hkl
  have hz1 := zSec_sec.2
  have his : (Tryz.prog.info? 150).map (·.size) = some zSec.length := info_sector
  have hbl := built_log d
  have hbr := built_root0
  have hzs := zero_sector
  have hzr := zero_root
  have hirt : (Tryz.prog.info? 154).map (·.size) = some [Value.int .i64 0, .int .i64 0].length := info_root
  clear hA hup hn hc hst he hln hlen hrd hro hkl p1 p2 p3 p4 p5
  go_enter Tryz.func43, Tryz.ntmps43
  go_wp2_with fail
  refine Hlen.out.mono ?_
  rintro e w' ⟨rfl, rfl⟩
  go_wp2_with fail
  refine (read_any W0 w d D L 0 HA.out).mono ?_
  rintro e w2 ⟨rfl, hb2⟩
  rw [R1.out, R2.out]
  have HA2 := Lib.hid (HA.out.later hb2)
  clear hb2 HA
  go_wp2_with (refine wpList_store_dk rfl 150 (.tmp 4) (.tmp 15) rfl HA2.out zSec w2.heap.size rfl rfl rfl rfl his hz1 ?_)
  intro w3 hA3
  have cr : w3.rangeAt w2.heap.size 0 zSec := by
    have := Own.range (h := hA3.own.only (List.mem_cons_self ..)) 0 zSec.length
    rw [List.drop_zero, List.take_length] at this
    exact this
  have HA4 := Lib.hid hA3.log
  clear hA3 HA2
  go_wp2_with (first
    | (refine wpList_build rfl 156 _ rfl [(0, .pointer (some ⟨d, 0, none⟩))] rfl _ hbl ?_)
    | (refine wpList_load_mid rfl 150 (.tmp 4) rfl w2.heap.size 0 rfl zSec _ (World.rangeAt_alloc cr _) Tryz.underlying150 rfl his ?_))
  refine (Hro.out _).mono ?_
  rintro e w5 ⟨rfl, hb5⟩
  have hA5 := HA4.out.later hb5
  have HA6 := Lib.hid (hA5.alloc (.cells #[.int .i64 0, .int .i64 0] 154))
  generalize w3.heap.size = l at *
  clear hb5 hA5 HA4 cr
  go_wp2_with fail
  refine (blank_any HA6.out Hup.out Hn.out).mono ?_
  rintro e w7 ⟨rfl, hb7⟩
  have HA7 := Lib.hid (HA6.out.later hb7)
  clear hb7 HA6
  go_wp2_with (refine wpList_build rfl 154 #[] rfl [] rfl _ hbr ?_)
  refine (keep_dk HA7.out Hc.out Hup.out (by rw [Hln.out]; exact h6) 0 0 ((n - 2) / 2) none 0 [] (fun h => absurd h (by decide)) (fun s hs => by cases hs) (by decide) (by rw [Hln.out]) (Nat.zero_le _) Hst.out).mono ?_
  rintro e w8 ⟨rfl, hA8⟩
  have hA9 : DkAt W0 w8 d (keepM D ((n - 2) / 2) 0 0 []).1 (rowLog l d 0 0 (.slice none 0 0) false :: L) := by
    rw [keptRow, if_pos He.out] at hA8
    exact hA8.sub (.cons_cons _ (.cons _ (List.Sublist.refl _)))
  have HF := Lib.hid (LgAt.fresh hA9 (by rw [Hkl.out, Hln.out]; exact h6))
  rw [He.out]
  clear hA8 hA9 HA7
  go_wp2_with fail
  go_ret2
  exact ⟨l, rfl, HF.out⟩
end Go.Proofs.YtkhnkidggcjfeaaGreatDoor
end
section
namespace Go.Proofs.YtkhnkidggcjfeaaGreatDoor
open Go.RowKit
structure LogLive (D : Dk) (n h side used : Nat) (recs : List (List Int)) (st : Nat) : Prop where
  clean : Clean D
  up : D.down = false
  len : D.last.length = n
  half : h = (n - 2) / 2
  holds : Holds D.last h side used recs
  steps : D.steps ≤ st
theorem newM_clean (n : Nat) : Clean (newM n) := ⟨rfl, rfl⟩
theorem keep_first (D : Dk) (n : Nat) (hc : Clean D) (hu : D.down = false) (hl : D.left = 0) (hn : D.last.length = n) (h6 : 6 ≤ n) (hm : n ≤ 4096) :
    (keepM D ((n - 2) / 2) 0 0 []).2 = 0 ∧ Clean (keepM D ((n - 2) / 2) 0 0 []).1 ∧ (keepM D ((n - 2) / 2) 0 0 []).1.down = false ∧ (keepM D ((n - 2) / 2) 0 0 []).1.left = 0 ∧ (keepM D ((n - 2) / 2) 0 0 []).1.last.length = n ∧ Holds (keepM D ((n - 2) / 2) 0 0 []).1.last ((n - 2) / 2) 0 0 [] ∧ (keepM D ((n - 2) / 2) 0 0 []).1.steps ≤ D.steps + 3 := by
  have h := keep_anew D hc hu (by omega) ((n - 2) / 2) 0 [] (by omega) (by omega) (by rw [hn]) (by decide) (fun b hb => by cases hb) (by simp [secsB])
  have e : secsV [] = [] := rfl
  have e2 : (secsB []).length = 0 := rfl
  rw [e, e2] at h
  obtain ⟨l1, l2⟩ := h.left hl
  have hs := h.steps
  rcases h.ends with ⟨_, h2, h3⟩ | ⟨h2, _⟩
  · exact ⟨l2, h.clean, h2, l1, h.len.trans hn, h3, by omega⟩
  · rw [l2] at h2; cases h2
theorem open_new {W0 : Base} {w : World} {d n : Nat} {L : List Rw} (hA : DkAt W0 w d (newM n) L) (h6 : 6 ≤ n) (hm : n ≤ 4096) :
    Calls Tryz.prog 43 #[.pointer (some ⟨d, 0, none⟩)] w fun e w' => ∃ l D, e = .returned (.tuple #[.pointer (some ⟨l, 0, none⟩), .int .i64 0]) ∧ LgAt W0 w' l d D 0 0 [] false L ∧ LogLive D n ((n - 2) / 2) 0 0 [] 3 ∧ D.left = 0 := by
  have hl : (newM n).last.length = n := by simp [newM]
  obtain ⟨k1, k2, k3, k4, k5, k6, k7⟩ := keep_first (newM n) n (newM_clean n) rfl rfl hl h6 hm
  exact (open_blank hA rfl rfl h6 (newM_clean n) (by show (0 : Int) ≤ _; decide) k1).mono fun e w' ⟨l, h1, h2⟩ => ⟨l, _, h1, h2, ⟨k2, k3, k5, rfl, k6, by have : (newM n).steps = 0 := rfl; omega⟩, k4⟩
theorem refM_yes (room : Nat) (recs : List (List Int)) (h1 : ∀ b ∈ recs, b.length ≤ 4096) (h2 : (secsB recs).length ≤ room) : refM false false room recs = 0 := by
  unfold refM
  rw [if_neg (by decide), if_neg (fun ⟨b, h3, h4⟩ => by have := h1 b h3; omega), if_neg (by omega)]
theorem LogLive.many {D : Dk} {n h side used st : Nat} {recs : List (List Int)} (H : LogLive D n h side used recs st) : recs.length ≤ 1000000 := by
  have := recs_le recs
  rw [← H.holds.uses] at this
  have := H.holds.fit
  have := H.holds.most
  have := H.half
  have := H.len
  omega
theorem append_yes {W0 : Base} {w : World} {l d n h side used st : Nat} {D : Dk} {recs : List (List Int)} {L : List Rw} (hA : LgAt W0 w l d D side used recs false L) (hV : LogLive D n h side used recs st) (hst : st ≤ 1000000000) (v : Value) (b : List Int) (hb : ∀ w', Own W0 w' L → By w' v b) (hl : b.length ≤ 4096) (hf : used + roomM b.length ≤ h) :
    Calls Tryz.prog 61 #[.pointer (some ⟨l, 0, none⟩), v] w fun e w' =>
      (∃ D', e = .returned (.int .i64 0) ∧ LgAt W0 w' l d D' side (used + roomM b.length) (recs ++ [b]) false L ∧ LogLive D' n h side (used + roomM b.length) (recs ++ [b]) (st + 100) ∧ (D.left = 0 → D'.left = 0)) ∨
      (∃ D', D.left ≠ 0 ∧ e = .returned (.int .i64 3) ∧ LgAt W0 w' l d D' side used recs true L ∧ Clean D' ∧ D'.down = true ∧ D'.left = 0 ∧ D'.last.length = n ∧ D'.steps ≤ (st + 100 : Nat) ∧ (Holds D'.last h side used recs ∨ Holds D'.last h side (used + roomM b.length) (recs ++ [b]))) := by
  have hs := hV.steps
  have hby := (hb w hA.own).2.1
  have hroom : roomM b.length ≤ 66 := by unfold roomM; omega
  have hK := keep_append D hV.clean hV.up hA.ok.left0 h side used recs b hV.holds hby hl hf
  have hks := hK.steps
  have hkl := hK.len
  have hhh : (D.last.length - 2) / 2 = h := by rw [hV.len]; exact hV.half.symm
  have hcode : (0 : Int) = refM false D.down ((D.last.length - 2) / 2 - used) [b] := by
    rw [hV.up, hhh]
    exact (refM_yes _ _ (fun x hx => by rw [List.mem_singleton.1 hx]; exact hl) (by rw [secsB_one, layB_length]; omega)).symm
  refine append_lg hA v b hb hV.many hV.clean (by omega) 0 hcode _ (fun w' h1 => absurd rfl h1) (fun w' _ h1 h2 => .inl ?_) (fun w' _ h1 h2 => .inr ?_)
  · rw [hhh] at h1 h2
    rcases hK.ends with ⟨_, k2, k3⟩ | ⟨k1, _⟩
    · exact ⟨_, rfl, h2, ⟨hK.clean, k2, hkl.trans hV.len, hV.half, k3, by omega⟩, fun e => (hK.left e).1⟩
    · rw [h1] at k1; cases k1
  · rw [hhh] at h1 h2 ⊢
    rcases hK.ends with ⟨k1, _⟩ | ⟨k1, k2, k3, k4⟩
    · exact absurd k1 h1
    · refine ⟨_, fun e => h1 (hK.left e).2, by rw [k1], h2, hK.clean, k2, k3, hkl.trans hV.len, by omega, ?_⟩
      exact k4 side used recs hV.holds (.inr (Nat.le_refl _))
end Go.Proofs.YtkhnkidggcjfeaaGreatDoor
end
section
namespace Go.Proofs.YtkhnkidggcjfeaaGreatDoor
open Go.RowKit
theorem row_by {W0 : Base} {L : List Rw} {v : Value} {zs : List Int} (hm : rowU v zs ∈ L) (hz : Byts zs) : ∀ w', Own W0 w' L → By w' v zs := fun w' h => (h.only hm).by hz
theorem Own.fix {W0 : Base} {w : World} {L : List Rw} (h : Own W0 w L) (o : Obj) : Own ⟨W0.world, (w.heap.size, o) :: W0.maps⟩ (w.alloc o) L := by
  have ha := h.alloc o
  refine ⟨ha.below, ha.rows, ha.apart, fun m hm => ?_, fun m hm p hp => ?_⟩
  · rcases List.mem_cons.1 hm with rfl | hm
    · exact ⟨h.size, heap_alloc_new w o⟩
    · exact ha.maps m hm
  · rcases List.mem_cons.1 hm with rfl | hm
    · intro e
      have := (h.lt hp e).2
      omega
    · exact ha.offmaps m hm p hp
theorem conv_constL (W : World) (C : Array Value) (n c : Nat) : Sem.run Tryz.prog (convert 38 38 (.slice (some ⟨W.heap.size, 0, none⟩) n c)) (W.alloc (.cells C 5)) = .ok (.slice (some ⟨W.heap.size, 0, none⟩) n c) (W.alloc (.cells C 5 (C.size, C.size + 1))) := Lib.run_convert_bytes_const W 38 5 C n c Tryz.underlying38 Tryz.underlying5
def one3 : List Int := [111, 110, 101]
def two3 : List Int := [116, 119, 111]
end Go.Proofs.YtkhnkidggcjfeaaGreatDoor
end
section
namespace Go.Proofs.YtkhnkidggcjfeaaGreatDoor
open Go.RowKit
open Go.ChangeMaps (setBlock)
end Go.Proofs.YtkhnkidggcjfeaaGreatDoor
end
section
namespace Go.Proofs.YtkhnkidggcjfeaaGreatDoor
open Go.RowKit
open Go.ChangeMaps (setBlock)
structure Et where
  quota : Int
  next : Int
  nodes : List (Int × ENd)
structure Rep (T : Tr) (E : Et) : Prop where
  quota : T.quota = E.quota
  next : T.next = E.next
  nodes : (erL T.nodes).Perm E.nodes
section
variable {α β : Type} [DecidableEq α]
theorem look_some_mem {m : List (α × β)} (hd : (m.map (·.1)).Nodup) {a : α} {v : β} : look m a = some v ↔ (a, v) ∈ m :=
  ⟨look_mem, fun h => look_of_mem hd h⟩
theorem look_perm {m m' : List (α × β)} (h : m.Perm m') (hd : (m.map (·.1)).Nodup) (a : α) : look m a = look m' a := by
  have hd' : (m'.map (·.1)).Nodup := (h.map (·.1)).nodup_iff.1 hd
  cases h1 : look m a with
  | some v => exact ((look_some_mem hd').2 (h.subset (look_mem h1))).symm
  | none =>
    cases h2 : look m' a with
    | none => rfl
    | some v =>
      have := (look_some_mem hd).2 (h.symm.subset (look_mem h2))
      rw [h1] at this; cases this
theorem put_filter {m : List (α × β)} (hd : (m.map (·.1)).Nodup) (a : α) (v : β) : (put m a v).Perm ((a, v) :: m.filter fun p => decide (p.1 ≠ a)) := by
  induction m with
  | nil => exact List.Perm.refl _
  | cons p r ih =>
    rw [List.map_cons, List.nodup_cons] at hd
    unfold put
    by_cases h : p.1 = a
    · rw [if_pos h, List.filter_cons_of_neg (by simp [h])]
      have : r.filter (fun p => decide (p.1 ≠ a)) = r := List.filter_eq_self.2 fun q hq => by
        have : q.1 ≠ a := fun e => hd.1 (List.mem_map.2 ⟨q, hq, e.trans h.symm⟩)
        simpa using this
      rw [this]
    · rw [if_neg h, List.filter_cons_of_pos (by simp [h])]
      exact ((ih hd.2).cons p).trans (List.Perm.swap _ _ _)
theorem put_perm {m m' : List (α × β)} (h : m.Perm m') (hd : (m.map (·.1)).Nodup) (a : α) (v : β) : (put m a v).Perm (put m' a v) :=
  (put_filter hd a v).trans (((h.filter _).cons (a, v)).trans (put_filter ((h.map (·.1)).nodup_iff.1 hd) a v).symm)
theorem put_nodup {m : List (α × β)} (hd : (m.map (·.1)).Nodup) (a : α) (v : β) : ((put m a v).map (·.1)).Nodup := by
  have h := (put_filter hd a v).map (·.1)
  refine h.nodup_iff.2 ?_
  rw [List.map_cons, List.nodup_cons]
  refine ⟨fun hm => ?_, hd.sublist (List.filter_sublist.map _)⟩
  obtain ⟨q, hq, e⟩ := List.mem_map.1 hm
  have := (List.mem_filter.1 hq).2
  simp [e] at this
end
theorem erL_put (m : List (Int × Nd)) (i : Int) (n : Nd) : erL (put m i n) = put (erL m) i n.er := by
  unfold erL
  induction m with
  | nil => rfl
  | cons p r ih =>
    simp only [List.map_cons]
    unfold put
    split
    · rfl
    · rw [← ih]; simp
theorem Rep.look {T : Tr} {E : Et} (h : Rep T E) (hd : (T.nodes.map (·.1)).Nodup) (i : Int) : (Go.Proofs.YtkhnkidggcjfeaaGreatDoor.look T.nodes i).map Nd.er = Go.Proofs.YtkhnkidggcjfeaaGreatDoor.look E.nodes i := by
  rw [← look_perm h.nodes (by rw [erL_keys]; exact hd) i]
  exact (look_map Nd.er T.nodes i).symm
theorem Rep.setN {T : Tr} {E : Et} (h : Rep T E) (hd : (T.nodes.map (·.1)).Nodup) (i : Int) (n : Nd) : Rep (T.setN i n) { E with nodes := put E.nodes i n.er } :=
  ⟨h.quota, h.next, by
    show (erL (put T.nodes i n)).Perm _
    rw [erL_put]
    exact put_perm h.nodes (by rw [erL_keys]; exact hd) i n.er⟩
theorem setN_nodup {T : Tr} (hd : (T.nodes.map (·.1)).Nodup) (i : Int) (n : Nd) : ((T.setN i n).nodes.map (·.1)).Nodup := put_nodup hd i n
theorem Rep.same {T T' : Tr} {E : Et} (h : Rep T E) (k : Same T T') : Rep T' E := ⟨k.quota.trans h.quota, k.next.trans h.next, k.nodes.trans h.nodes⟩
theorem Rep.count {T : Tr} {E : Et} (h : Rep T E) : T.nodes.length = E.nodes.length := by
  have := h.nodes.length_eq
  unfold erL at this
  simpa using this
def sumE (l : List (Int × ENd)) : Nat := (l.map fun p => p.2.data.length).sum
theorem Rep.sum {T : Tr} {E : Et} (h : Rep T E) : sumT T.nodes = sumE E.nodes := by
  have := (h.nodes.map fun p => p.2.data.length).sum_nat
  unfold erL at this
  rw [List.map_map] at this
  exact this
/-! ### Where things stand -/
def walkE (E : Et) (i : Int) : List (List UInt8) → Option Int
  | [] => some i
  | n :: r => match look E.nodes i with
    | none => none
    | some nd => match look nd.kids (toB n) with
      | none => none
      | some j => walkE E j r
theorem Rep.walk {T : Tr} {E : Et} (h : Rep T E) (hd : (T.nodes.map (·.1)).Nodup) (a : List (List UInt8)) : ∀ i, walkT T i a = walkE E i a := by
  induction a with
  | nil => intro i; rfl
  | cons x r ih =>
    intro i
    unfold walkT walkE
    rw [← h.look hd i]
    cases h1 : Go.Proofs.YtkhnkidggcjfeaaGreatDoor.look T.nodes i with
    | none => rfl
    | some nd =>
      show (match Go.Proofs.YtkhnkidggcjfeaaGreatDoor.look nd.kids (toB x) with | none => none | some j => walkT T j r) = (match Go.Proofs.YtkhnkidggcjfeaaGreatDoor.look nd.kids (toB x) with | none => none | some j => walkE E j r)
      cases Go.Proofs.YtkhnkidggcjfeaaGreatDoor.look nd.kids (toB x) with
      | none => rfl
      | some j => exact ih j
def placeE (E : Et) (l : List UInt8) : Int × Option (Int × ENd × List UInt8) := match (namesL l).getLast? with
  | none => (14, none)
  | some z => match walkE E 1 (namesL l).dropLast with
    | none => (8, none)
    | some j => match look E.nodes j with
      | none => (8, none)
      | some nd => if nd.dir then (0, some (j, nd, z)) else (11, none)
theorem Rep.place {T : Tr} {E : Et} (h : Rep T E) (hd : (T.nodes.map (·.1)).Nodup) {l : List UInt8} {j : Int} {en : ENd} {z : List UInt8} (hp : placeE E l = (0, some (j, en, z))) : ∃ nd k, placeT T l = (0, some (j, nd, z)) ∧ At T j nd k ∧ nd.er = en := by
  unfold placeE at hp
  unfold placeT
  cases h1 : (namesL l).getLast? with
  | none => rw [h1] at hp; cases hp
  | some z2 =>
    rw [h1] at hp
    rw [h.walk hd]
    simp only at hp ⊢
    cases h2 : walkE E 1 (namesL l).dropLast with
    | none => rw [h2] at hp; cases hp
    | some j2 =>
      rw [h2] at hp
      simp only at hp ⊢
      have hl := h.look hd j2
      cases h3 : Go.Proofs.YtkhnkidggcjfeaaGreatDoor.look T.nodes j2 with
      | none => rw [h3] at hl; rw [← hl] at hp; cases hp
      | some nd =>
        rw [h3] at hl
        rw [← hl] at hp
        simp only [Option.map_some] at hp ⊢
        have e : nd.er.dir = nd.k.isSome := rfl
        rw [e] at hp
        cases h4 : nd.k with
        | none => rw [h4] at hp; simp at hp
        | some k =>
          rw [h4] at hp
          simp only [Option.isSome_some, if_true, Prod.mk.injEq, Option.some.injEq, true_and] at hp
          obtain ⟨rfl, rfl, rfl⟩ := hp
          exact ⟨nd, k, by simp, ⟨h3, h4⟩, rfl⟩
end Go.Proofs.YtkhnkidggcjfeaaGreatDoor
end
section
namespace Go.Proofs.YtkhnkidggcjfeaaGreatDoor
open Go.RowKit
open Go.ChangeMaps (setBlock)
def mkdirE (E : Et) (j : Int) (nd : ENd) (name : ByteArray) : Et := { E with next := E.next + 1, nodes := put (put E.nodes E.next ⟨true, [], [], 0⟩) j { nd with kids := put nd.kids name E.next } }
def createE (E : Et) (j : Int) (nd : ENd) (name : ByteArray) (zs : List Int) : Et := { E with next := E.next + 1, nodes := put (put (put E.nodes E.next ⟨false, [], zs, 0⟩) j { nd with kids := put nd.kids name E.next }) E.next ⟨false, [], zs, 1⟩ }
def putEx (E : Et) (j : Int) (name : ByteArray) (i : Int) : Et := match look E.nodes j, look E.nodes i with
  | some nd, some f => { E with nodes := put (put E.nodes j { nd with kids := put nd.kids name i }) i { f with places := f.places + 1 } }
  | _, _ => E
def takeEx (E : Et) (j : Int) (name : ByteArray) : Et := match look E.nodes j with
  | none => E
  | some nd => match look nd.kids name with
    | none => E
    | some i => match look E.nodes i with
      | none => E
      | some f => { E with nodes := put (put E.nodes i { f with places := f.places - 1 }) j { nd with kids := del nd.kids name } }
theorem Rep.mkdir {T : Tr} {E : Et} (h : Rep T E) (hd : (T.nodes.map (·.1)).Nodup) {j : Int} {nd n : Nd} (name : ByteArray) (hn : n.er = ⟨true, [], [], 0⟩) : Rep (mkdirT T j nd name n) (mkdirE E j nd.er name) := by
  have h1 : Rep { T with next := T.next + 1 } { E with next := E.next + 1 } := ⟨h.quota, by show T.next + 1 = E.next + 1; rw [h.next], h.nodes⟩
  have h2 := (h1.setN hd T.next n).setN (setN_nodup (T := { T with next := T.next + 1 }) hd T.next n) j { nd with kids := put nd.kids name T.next }
  rw [hn, show ({ nd with kids := put nd.kids name T.next } : Nd).er = { nd.er with kids := put nd.er.kids name T.next } from rfl, h.next] at h2
  have e : mkdirT T j nd name n = (({ T with next := T.next + 1 } : Tr).setN T.next n).setN j { nd with kids := put nd.kids name T.next } := rfl
  rw [e, h.next]
  exact h2
theorem Rep.create {T : Tr} {E : Et} (h : Rep T E) (hd : (T.nodes.map (·.1)).Nodup) {j : Int} {nd n : Nd} (name : ByteArray) {zs : List Int} (hn : n.er = ⟨false, [], zs, 0⟩) : Rep (createT T j nd name n) (createE E j nd.er name zs) := by
  have h1 : Rep { T with next := T.next + 1 } { E with next := E.next + 1 } := ⟨h.quota, by show T.next + 1 = E.next + 1; rw [h.next], h.nodes⟩
  have d1 := setN_nodup (T := { T with next := T.next + 1 }) hd T.next n
  have h2 := ((h1.setN hd T.next n).setN d1 j { nd with kids := put nd.kids name T.next }).setN (setN_nodup d1 j { nd with kids := put nd.kids name T.next }) T.next { n with places := n.places + 1 }
  have hp : n.places = 0 := congrArg ENd.places hn
  have hd2 : n.data = zs := congrArg ENd.data hn
  have hk2 : n.kids = [] := congrArg ENd.kids hn
  have hb2 : n.k.isSome = false := congrArg ENd.dir hn
  rw [show ({ n with places := n.places + 1 } : Nd).er = ⟨false, [], zs, 1⟩ by unfold Nd.er; simp only [hp, hd2, hk2, hb2]; rfl, hn, show ({ nd with kids := put nd.kids name T.next } : Nd).er = { nd.er with kids := put nd.er.kids name T.next } from rfl, h.next] at h2
  have e : createT T j nd name n = ((({ T with next := T.next + 1 } : Tr).setN T.next n).setN j { nd with kids := put nd.kids name T.next }).setN T.next { n with places := n.places + 1 } := rfl
  rw [e, h.next]
  exact h2
theorem Rep.put {T : Tr} {E : Et} (h : Rep T E) (hd : (T.nodes.map (·.1)).Nodup) (j : Int) (name : ByteArray) (i : Int) : Rep (putTx T j name i) (putEx E j name i) := by
  unfold putTx putEx
  rw [← h.look hd j, ← h.look hd i]
  cases Go.Proofs.YtkhnkidggcjfeaaGreatDoor.look T.nodes j with
  | none => exact h
  | some nd =>
    cases Go.Proofs.YtkhnkidggcjfeaaGreatDoor.look T.nodes i with
    | none => exact h
    | some f => exact (h.setN hd j { nd with kids := Go.Proofs.YtkhnkidggcjfeaaGreatDoor.put nd.kids name i }).setN (setN_nodup hd j { nd with kids := Go.Proofs.YtkhnkidggcjfeaaGreatDoor.put nd.kids name i }) i { f with places := f.places + 1 }
theorem Rep.take {T : Tr} {E : Et} (h : Rep T E) (hd : (T.nodes.map (·.1)).Nodup) (j : Int) (name : ByteArray) : Rep (takeTx T j name) (takeEx E j name) := by
  unfold takeTx takeEx
  rw [← h.look hd j]
  cases h1 : Go.Proofs.YtkhnkidggcjfeaaGreatDoor.look T.nodes j with
  | none => exact h
  | some nd =>
    show Rep (match Go.Proofs.YtkhnkidggcjfeaaGreatDoor.look nd.kids name with | none => T | some i => _) (match Go.Proofs.YtkhnkidggcjfeaaGreatDoor.look nd.kids name with | none => E | some i => _)
    cases Go.Proofs.YtkhnkidggcjfeaaGreatDoor.look nd.kids name with
    | none => exact h
    | some i =>
      simp only
      rw [← h.look hd i]
      cases h2 : Go.Proofs.YtkhnkidggcjfeaaGreatDoor.look T.nodes i with
      | none => exact h
      | some f => exact (h.setN hd i { f with places := f.places - 1 }).setN (setN_nodup hd i { f with places := f.places - 1 }) j { nd with kids := del nd.kids name }
theorem takeTx_nodup {T : Tr} (hd : (T.nodes.map (·.1)).Nodup) (j : Int) (name : ByteArray) : ((takeTx T j name).nodes.map (·.1)).Nodup := by
  unfold takeTx
  split
  · exact hd
  · split
    · exact hd
    · split
      · exact hd
      · exact setN_nodup (setN_nodup hd _ _) _ _
theorem Rep.write {T : Tr} {E : Et} (h : Rep T E) (hd : (T.nodes.map (·.1)).Nodup) (i : Int) {f2 : Nd} {ef : ENd} {zs : List Int} (hf : f2.er = { ef with data := zs }) : Rep (T.setN i f2) { E with nodes := Go.Proofs.YtkhnkidggcjfeaaGreatDoor.put E.nodes i { ef with data := zs } } := by
  have := h.setN hd i f2
  rwa [hf] at this
structure OpE where
  kind : Int
  l : List UInt8
  l2 : List UInt8
  zs : List Int
def doE (E : Et) (o : OpE) : Option Et := if o.zs.length ≤ 3500 then (match placeE E o.l with
  | (0, some (j, nd, z)) => match look nd.kids (toB z) with
    | none => if o.kind = 0 then some (mkdirE E j nd (toB z)) else if o.kind = 2 then some (createE E j nd (toB z) o.zs) else none
    | some i => match look E.nodes i with
      | none => none
      | some f => if f.dir = false ∧ 1 ≤ f.places ∧ f.places ≤ 1000000000 then
          (if o.kind = 3 then some { E with nodes := put E.nodes i { f with data := o.zs } }
          else if o.kind = 6 then some (takeEx E j (toB z))
          else match placeE E o.l2 with
            | (0, some (jb, ndb, zb)) =>
              if o.kind = 4 then (match look ndb.kids (toB zb) with
                | none => some (putEx E jb (toB zb) i)
                | some _ => none)
              else if o.kind = 5 then (match look ndb.kids (toB zb) with
                | none => some (putEx (takeEx E j (toB z)) jb (toB zb) i)
                | some old => match look E.nodes old with
                  | none => none
                  | some fo => if fo.dir = false ∧ 0 ≤ fo.places ∧ fo.places ≤ 1000000000 then
                      (if old = i then some E else some (putEx (takeEx (takeEx E jb (toB zb)) j (toB z)) jb (toB zb) i)) else none)
              else none
            | _ => none) else none
  | _ => none) else none
theorem DoL.imp {w0 w w' : World} {S : Blocks} {L : List Rw} {t : Nat} {T : Tr} {R R' : Tr → Prop} {r : Value} {e : Ending} (h : DoL w0 S L t T w R r e w') (hR : ∀ T', R T' → R' T') : DoL w0 S L t T w R' r e w' := by
  obtain ⟨S', L', T', h1, h2, h3, h4, h5, h6⟩ := h
  exact ⟨S', L', T', h1, h2, h3, h4, h5, hR _ h6⟩
theorem Rep.file {T : Tr} {E : Et} (h : Rep T E) (hd : (T.nodes.map (·.1)).Nodup) {i : Int} {ef : ENd} (he : Go.Proofs.YtkhnkidggcjfeaaGreatDoor.look E.nodes i = some ef) (h1 : ef.dir = false) (h2 : 0 ≤ ef.places) (h3 : ef.places ≤ 1000000000) : ∃ f, Fl T i f ∧ f.er = ef := by
  have hl := h.look hd i
  rw [he] at hl
  cases hf : Go.Proofs.YtkhnkidggcjfeaaGreatDoor.look T.nodes i with
  | none => rw [hf] at hl; cases hl
  | some f =>
    rw [hf] at hl
    have e : f.er = ef := by injection hl
    refine ⟨f, ⟨hf, ?_, ?_, ?_⟩, e⟩
    · have : f.k.isSome = false := (congrArg ENd.dir e).trans h1
      cases hk : f.k with
      | none => rfl
      | some k => rw [hk] at this; cases this
    · have := congrArg ENd.places e
      show 0 ≤ f.places
      rw [show f.places = ef.places from this]; exact h2
    · have := congrArg ENd.places e
      show f.places ≤ _
      rw [show f.places = ef.places from this]; exact h3
end Go.Proofs.YtkhnkidggcjfeaaGreatDoor
end
section
namespace Go.Proofs.YtkhnkidggcjfeaaGreatDoor
open Go.RowKit
open Go.ChangeMaps (setBlock)
end Go.Proofs.YtkhnkidggcjfeaaGreatDoor
end
section
namespace Go.Proofs.YtkhnkidggcjfeaaGreatDoor
open Go.RowKit
open Go.ChangeMaps (setBlock)
section
variable {α β : Type} [DecidableEq α]
theorem del_filter {m : List (α × β)} (hd : (m.map (·.1)).Nodup) (a : α) : del m a = m.filter fun p => decide (p.1 ≠ a) := by
  induction m with
  | nil => rfl
  | cons p r ih =>
    rw [List.map_cons, List.nodup_cons] at hd
    unfold del
    by_cases h : p.1 = a
    · rw [if_pos h, List.filter_cons_of_neg (by simp [h])]
      exact (List.filter_eq_self.2 fun q hq => by
        have : q.1 ≠ a := fun e => hd.1 (List.mem_map.2 ⟨q, hq, e.trans h.symm⟩)
        simpa using this).symm
    · rw [if_neg h, List.filter_cons_of_pos (by simp [h]), ih hd.2]
theorem del_sub (m : List (α × β)) (a : α) : (del m a).Sublist m := by
  induction m with
  | nil => exact List.Sublist.refl _
  | cons p r ih =>
    unfold del
    split
    · exact List.sublist_cons_self _ _
    · exact ih.cons_cons _
theorem del_perm {m m' : List (α × β)} (h : m.Perm m') (hd : (m.map (·.1)).Nodup) (a : α) : (del m a).Perm (del m' a) := by
  rw [del_filter hd, del_filter ((h.map (·.1)).nodup_iff.1 hd)]
  exact h.filter _
theorem del_map {γ : Type} (f : β → γ) (m : List (α × β)) (a : α) : (del m a).map (fun p => (p.1, f p.2)) = del (m.map fun p => (p.1, f p.2)) a := by
  induction m with
  | nil => rfl
  | cons p r ih =>
    simp only [List.map_cons]
    unfold del
    by_cases h : p.1 = a
    · rw [if_pos h, if_pos h]
    · rw [if_neg h, if_neg h, List.map_cons, ih]
theorem look_del_same {m : List (α × β)} (hd : (m.map (·.1)).Nodup) (a : α) : look (del m a) a = none := by
  rw [del_filter hd]
  cases h : look (m.filter fun p => decide (p.1 ≠ a)) a with
  | none => rfl
  | some v =>
    have := (List.mem_filter.1 (look_mem h)).2
    simp at this
end
theorem flat_sub {α β : Type} {f : α → List β} {l l' : List α} (h : l.Sublist l') : (l.flatMap f).Sublist (l'.flatMap f) := by
  induction h with
  | slnil => exact List.Sublist.refl _
  | cons a _ ih => rw [List.flatMap_cons]; exact ih.trans (List.sublist_append_right _ _)
  | cons_cons a _ ih => rw [List.flatMap_cons, List.flatMap_cons]; exact (List.Sublist.refl _).append ih
theorem Tree.delN {S : Blocks} {D : Value → List Int → Prop} {t : Nat} {T : Tr} (H : Tree S D t T) {i : Int} (hi : i ≠ 1) (hno : ∀ p ∈ T.nodes, ∀ q ∈ p.2.kids, q.2 ≠ i) {o' : Obj} (ho : MapO KI o' (del (nodesV T) i)) : Tree (upd S T.bm o') D t { T with nodes := del T.nodes i } := by
  have hap := H.apart
  have htb : t ≠ T.bm := fun e => (List.nodup_cons.1 hap).1 (by rw [e]; exact List.mem_cons_self ..)
  have hnb : ∀ p ∈ T.nodes, ∀ b ∈ p.2.foot, b ≠ T.bm := fun p hp b hb e => (List.nodup_cons.1 (List.nodup_cons.1 hap).2).1 (e ▸ List.mem_flatMap.2 ⟨p, hp, hb⟩)
  have hsub := del_sub T.nodes i
  obtain ⟨o, h1, h2⟩ := H.at_.map
  refine ⟨⟨upd_other H.at_.cells htb _, ⟨o', upd_same h1 _, ?_⟩, fun p hp => (H.at_.node p (hsub.subset hp)).mono (fun b x hb hx => upd_other hx (hnb p (hsub.subset hp) b hb) _) (fun _ _ h => h)⟩, ?_, ⟨?_, ?_, fun p hp q hq => ?_, fun p hp => H.good.low p (hsub.subset hp)⟩⟩
  · have e : nodesV { T with nodes := del T.nodes i } = del (nodesV T) i := del_map (fun n : Nd => Value.pointer (some ⟨n.b, 0, none⟩)) T.nodes i
    rw [e]; exact ho
  · refine hap.sublist ((List.Sublist.cons_cons _ ?_).cons_cons _)
    exact flat_sub hsub
  · exact H.good.keys.sublist (hsub.map _)
  · obtain ⟨n, k, h3, h4⟩ := H.good.root
    exact ⟨n, k, by show look (del T.nodes i) 1 = _; rw [look_del_ne (Ne.symm hi)]; exact h3, h4⟩
  · obtain ⟨n, hn⟩ := H.good.kids p (hsub.subset hp) q hq
    exact ⟨n, by show look (del T.nodes i) q.2 = _; rw [look_del_ne (hno p (hsub.subset hp) q hq)]; exact hn⟩
def rmT (T : Tr) (j : Int) (nd : Nd) (name : ByteArray) (i : Int) : Tr := { T.setN j { nd with kids := del nd.kids name } with nodes := del (T.setN j { nd with kids := del nd.kids name }).nodes i }
theorem rmdir_file {w0 w : World} {S : Blocks} {L : List Rw} {t : Nat} {T : Tr} (hO : Own ⟨w0, S⟩ w L) (H : Tree S (Pc L) t T) {nd : Nd} (name : ByteArray) {i : Int} {f : Nd} (hi : look T.nodes i = some f) (hf : f.k = none) :
    Calls Tryz.prog 95 #[.pointer (some ⟨t, 0, none⟩), .agg #[.pointer (some ⟨nd.b, 0, none⟩), .string name], .int .i64 i] w (DoL w0 S L t T w (fun T2 => T2 = T) (.int .i64 11)) := by
  obtain ⟨w1, S2, hw1, hsz, hO2, H1, m1, hsub, hlt, hB1⟩ := one_box hO H (boxP nd name)
  have d2 := (H1.at_.inWorld hO2).at0.2.2
  have hl := (H1.at_.inWorld hO2).look i
  rw [hi] at hl
  dsimp only [ptrOf] at hl
  have hdir := dir_any ((H1.at_.inWorld hO2).node _ (look_mem hi))
  rw [hf] at hdir
  dsimp only [Option.isSome_none] at hdir
  have HP := Lib.hid (show DoL w0 S L t T w (fun T2 => T2 = T) (.int .i64 11) (.returned (.int .i64 11)) w1 from ⟨S2, L, T, rfl, hO2, fun _ h => h, H1, ⟨fun b x hb _ => hsub b x hb, fun b hb => .inl hb⟩, rfl⟩)
  clear hO H hO2 H1 m1 hsub hlt hsz hB1 hi
  rw [hw1] at d2 hl hdir HP
  clear hw1
  go_enter Tryz.func95, Tryz.ntmps95
  go_wp2_with (go_at_call 96; refine hdir.mono ?_; rintro e w' ⟨rfl, rfl⟩)
  go_ret
  exact HP.out
theorem kids_len {w : World} {D : Value → List Int → Prop} {n : Nd} (H : NodeIn (inW w) D n) {k : Nat} (hk : n.k = some k) (ty : TypeId) : (Builtin.len_ #[29] ty #[.map (some k)]).run Tryz.prog w = .ok (.int .i64 (n.kids.length : Int)) w := by
  obtain ⟨o, h1, h2⟩ := H.kid k hk
  have := MapO.length Tryz.underlying29 h2 h1 ty
  rw [show (kidsV n.kids).length = n.kids.length by simp [kidsV]] at this
  exact this
theorem rmdir_busy {w0 w : World} {S : Blocks} {L : List Rw} {t : Nat} {T : Tr} (hO : Own ⟨w0, S⟩ w L) (H : Tree S (Pc L) t T) {nd : Nd} (name : ByteArray) {i : Int} {f : Nd} {kf : Nat} (hi : look T.nodes i = some f) (hf : f.k = some kf) (hb : 0 < f.kids.length) :
    Calls Tryz.prog 95 #[.pointer (some ⟨t, 0, none⟩), .agg #[.pointer (some ⟨nd.b, 0, none⟩), .string name], .int .i64 i] w (DoL w0 S L t T w (fun T2 => T2 = T) (.int .i64 12)) := by
  obtain ⟨w1, S2, hw1, hsz, hO2, H1, m1, hsub, hlt, hB1⟩ := one_box hO H (boxP nd name)
  have d2 := (H1.at_.inWorld hO2).at0.2.2
  have hl := (H1.at_.inWorld hO2).look i
  rw [hi] at hl
  dsimp only [ptrOf] at hl
  have hN := (H1.at_.inWorld hO2).node _ (look_mem hi)
  have hdir := dir_any hN
  have c0 := hN.at0.1
  have hlen := kids_len hN hf
  rw [hf] at hdir c0
  dsimp only [Option.isSome_some] at hdir
  have hb2 : (0 : Int) < (f.kids.length : Int) := by exact_mod_cast hb
  have HP := Lib.hid (show DoL w0 S L t T w (fun T2 => T2 = T) (.int .i64 12) (.returned (.int .i64 12)) w1 from ⟨S2, L, T, rfl, hO2, fun _ h => h, H1, ⟨fun b x hb _ => hsub b x hb, fun b hb => .inl hb⟩, rfl⟩)
  clear hO H hO2 H1 m1 hsub hlt hsz hB1 hi hN hb
  rw [hw1] at d2 hl hdir HP c0 hlen
  clear hw1
  go_enter Tryz.func95, Tryz.ntmps95
  go_wp2_with (go_at_call 96; refine hdir.mono ?_; rintro e w' ⟨rfl, rfl⟩)
  go_ret
  exact HP.out
set_option maxHeartbeats 2000000 in
theorem rmdir_ok {w0 w : World} {S : Blocks} {L : List Rw} {t : Nat} {T : Tr} (hO : Own ⟨w0, S⟩ w L) (H : Tree S (Pc L) t T) {j : Int} {nd : Nd} {k : Nat} (ha : At T j nd k) (name : ByteArray) {i : Int} {f : Nd} {kf : Nat} (hi : look T.nodes i = some f) (hf : f.k = some kf) (hb : f.kids = [])
    (hi1 : i ≠ 1) (hno : ∀ p ∈ (T.setN j { nd with kids := del nd.kids name }).nodes, ∀ q ∈ p.2.kids, q.2 ≠ i) :
    Calls Tryz.prog 95 #[.pointer (some ⟨t, 0, none⟩), .agg #[.pointer (some ⟨nd.b, 0, none⟩), .string name], .int .i64 i] w (DoL w0 S L t T w (fun T2 => T2 = rmT T j nd name i) (.int .i64 0)) := by
  obtain ⟨w1, S2, hw1, hsz, hO2, H1, m1, hsub, hlt, hB1⟩ := one_box hO H (boxP nd name)
  have d2 := (H1.at_.inWorld hO2).at0.2.2
  have hl := (H1.at_.inWorld hO2).look i
  rw [hi] at hl
  dsimp only [ptrOf] at hl
  have hN := (H1.at_.inWorld hO2).node _ (look_mem hi)
  have hdir := dir_any hN
  have c0 := hN.at0.1
  have hlen := kids_len hN hf
  rw [hb] at hlen
  rw [hf] at hdir c0
  dsimp only [Option.isSome_some, List.length_nil] at hdir hlen
  -- out of the directory
  have hO3 := hO2.drew
  have p0 : w1.drew.cell? ⟨w.heap.size, 0, none⟩ = some (.pointer (some ⟨nd.b, 0, none⟩)) := by rw [hO3.cellB m1]; rfl
  have p1 : w1.drew.cell? ⟨w.heap.size, 1, none⟩ = some (.string name) := by rw [hO3.cellB m1]; rfl
  have hNd := H1.at_.node _ (look_mem ha.there)
  have n0 : w1.drew.cell? ⟨nd.b, 0, none⟩ = some (.map (some k)) := by
    have := ((H1.at_.inWorld hO3).node _ (look_mem ha.there)).at0.1
    rwa [ha.dir] at this
  obtain ⟨o, h1, h2⟩ := hNd.kid k ha.dir
  obtain ⟨o', hdel, hm'⟩ := h2.delete (w := w1.drew) kindsS Tryz.underlying29 (hO3.at h1) name 0
  rw [del_kidsV] at hm'
  have H3 := H1.setKids ha.there ha.dir hm' (fun q hq => H1.good.kids _ (look_mem ha.there) q (mem_del hq))
  have hO4 := hO3.setB h1 o'
  obtain ⟨w2, hw2⟩ : ∃ w2, w2 = setBlock w1.drew k o' := ⟨_, rfl⟩
  rw [← hw2] at hO4 hdel
  -- out of the tree
  have hO5 := hO4
  have t2 : w2.cell? ⟨t, 2, none⟩ = some (.map (some T.bm)) := (H3.at_.inWorld hO5).at0.2.2
  obtain ⟨o2, g1, g2⟩ := H3.at_.map
  obtain ⟨o3, hdel2, hm3⟩ := g2.delete (w := w2) kindsI Tryz.underlying80 (hO5.at g1) i 0
  have H5 := H3.delN hi1 hno hm3
  have hO6 := hO5.setB g1 o3
  have hbm : (T.setN j { nd with kids := del nd.kids name }).bm = T.bm := rfl
  rw [hbm] at hdel2 H5 hO6
  have efoot : (T.setN j { nd with kids := del nd.kids name }).foot = T.foot := setN_foot (n' := { nd with kids := del nd.kids name }) ha.there rfl rfl
  have hfr : Frame S (upd (upd S2 k o') T.bm o3) (t :: T.foot) (t :: (rmT T j nd name i).foot) w.heap.size := by
    have r1 := (foot_node ha.there).2 k ha.dir
    refine ⟨fun b x hb hnb => upd_other (upd_other (hsub b x hb) (fun e => hnb (by rw [e]; exact List.mem_cons_of_mem _ r1)) _) (fun e => hnb (by rw [e]; exact List.mem_cons_of_mem _ (List.mem_cons_self ..))) _, fun b hb => .inl ?_⟩
    rw [← efoot]
    exact ((List.Sublist.cons_cons _ (flat_sub (del_sub (T.setN j { nd with kids := del nd.kids name }).nodes i))).cons_cons _).subset hb
  have HP := Lib.hid (show DoL w0 S L t T w (fun T2 => T2 = rmT T j nd name i) (.int .i64 0) (.returned (.int .i64 0)) (setBlock w2 T.bm o3) from ⟨_, L, _, rfl, hO6, fun _ h => h, H5, hfr, rfl⟩)
  clear hO H hO2 H1 m1 hsub hlt hsz hB1 hi hN hb hO3 hO4 hO5 hO6 H3 H5 hfr h1 h2 hm' g1 g2 hm3 hNd efoot hbm hno hi1 ha
  rw [hw1] at d2 hl hdir c0 hlen
  go_enter Tryz.func95, Tryz.ntmps95
  go_wp2_with (go_at_call 96; refine hdir.mono ?_; rintro e w' ⟨rfl, rfl⟩)
  rw [← hw1]
  clear hw1 d2 hl hdir c0 hlen hw2
  go_still_tail 7, (by kernel_rfl)
  go_wp2_with fail
  go_ret
  exact HP.out
end Go.Proofs.YtkhnkidggcjfeaaGreatDoor
end
section
namespace Go.Proofs.YtkhnkidggcjfeaaGreatDoor
open Go.RowKit
open Go.ChangeMaps (setBlock)
abbrev boxO (κ : Int) (p q : ByteArray) (va : Option Addr) (vn vc : Nat) : Obj := .cells #[.int .i64 κ, .string p, .string q, .slice va vn vc] 40
theorem still_same {w0 w w2 : World} {S S2 : Blocks} {L : List Rw} {t : Nat} {T : Tr} (c : Int) (h : Own ⟨w0, S2⟩ w2 L) (H : Tree S2 (Pc L) t T) (hsub : ∀ b x, (b, x) ∈ S → (b, x) ∈ S2) : DoL w0 S L t T w (fun T2 => T2 = T) (.int .i64 c) (.returned (.int .i64 c)) w2 :=
  ⟨S2, L, T, rfl, h, fun _ h => h, H, ⟨fun b x hb _ => hsub b x hb, fun b hb => .inl hb⟩, rfl⟩
theorem do_kind {w0 w : World} {S : Blocks} {L : List Rw} {t : Nat} {T : Tr} (hO : Own ⟨w0, S⟩ w L) (H : Tree S (Pc L) t T) (κ : Int) (hκ : κ < 0 ∨ 6 < κ) (p q : ByteArray) {va : Option Addr} {vn vc : Nat} :
    Calls Tryz.prog 59 #[.pointer (some ⟨t, 0, none⟩), .agg (opL κ p q (.slice va vn vc)).toArray] w (DoL w0 S L t T w (fun T2 => T2 = T) (.int .i64 1)) := by
  obtain ⟨w1, S2, hw1, hsz, hO2, H1, m1, hsub, hlt, hB1⟩ := one_box hO H (boxO κ p q va vn vc)
  have o0 : w1.cell? ⟨w.heap.size, 0, none⟩ = some (.int .i64 κ) := by rw [hO2.cellB m1]; rfl
  have HP := Lib.hid (still_same (w := w) 1 hO2 H1 hsub)
  rw [hw1] at o0 HP
  clear hO H hO2 H1 m1 hsub hlt hsz hB1 hw1
  by_cases hk : κ < 0
  · clear hκ
    go_enter Tryz.func59, Tryz.ntmps59
    go_wp2_with fail
    go_ret
    exact HP.out
  · have h6 : 6 < κ := hκ.resolve_left hk
    clear hκ
    go_enter Tryz.func59, Tryz.ntmps59
    go_wp2_with fail
    go_ret
    exact HP.out
set_option maxHeartbeats 2000000 in
theorem do_bad {w0 w : World} {S : Blocks} {L : List Rw} {t : Nat} {T : Tr} (hO : Own ⟨w0, S⟩ w L) (H : Tree S (Pc L) t T) (hm : Mx w) (κ : Int) (h0 : ¬ κ < 0) (h6 : ¬ 6 < κ) (p q : ByteArray) (hp : p.size ≤ maxLen) {va : Option Addr} {vn vc : Nat}
    {c : Int} (hc : placeT T p.data.toList = (c, none)) (hc0 : (c != 0) = true) :
    Calls Tryz.prog 59 #[.pointer (some ⟨t, 0, none⟩), .agg (opL κ p q (.slice va vn vc)).toArray] w (DoL w0 S L t T w (fun T2 => T2 = T) (.int .i64 c)) := by
  obtain ⟨w1, S2, hw1, hsz, hO2, H1, m1, hsub, hlt, hB1⟩ := one_box hO H (boxO κ p q va vn vc)
  have o0 : w1.cell? ⟨w.heap.size, 0, none⟩ = some (.int .i64 κ) := by rw [hO2.cellB m1]; rfl
  have o1 : w1.cell? ⟨w.heap.size, 1, none⟩ = some (.string p) := by rw [hO2.cellB m1]; rfl
  have hpl := place_any (H1.at_.inWorld hO2) H.good p hp (hm.later hB1)
  rw [hc] at hpl
  have hD : ∀ w', Own ⟨w0, S2⟩ w' L → DoL w0 S L t T w (fun T2 => T2 = T) (.int .i64 c) (.returned (.int .i64 c)) w' := fun w' h => still_same c h H1 hsub
  have HO2 := Lib.hid hO2
  rw [hw1] at o0 o1 hpl
  clear hO H hO2 H1 m1 hsub hlt hsz hc hm hB1
  dsimp only [placeL, zP] at hpl
  go_enter Tryz.func59, Tryz.ntmps59
  go_wp2_with fail
  refine hpl.mono ?_
  rintro e w2 ⟨rfl, hb⟩
  rw [← hw1] at hb
  have hO3 := HO2.out.later hb
  have HD := Lib.hid (hD _ (hO3.alloc (.cells #[.pointer none, .string ⟨#[]⟩] 180)))
  clear o0 o1 hpl hw1 hb hO3 hD
  go_wp2_with fail
  go_ret
  exact HD.out
theorem do_facts {w0 w2 : World} {S2 : Blocks} {L : List Rw} {t : Nat} {T : Tr} (h2 : Own ⟨w0, S2⟩ w2 L) (H1 : Tree S2 (Pc L) t T) {m : Nat} {κ : Int} {p q : ByteArray} {va : Option Addr} {vn vc : Nat} (m1 : (m, boxO κ p q va vn vc) ∈ S2) {j : Int} {nd : Nd} {k : Nat} (ha : At T j nd k) (z : List UInt8) :
    Own ⟨w0, S2⟩ (w2.alloc (boxP nd (toB z))).drew L ∧ (w2.alloc (boxP nd (toB z))).cell? ⟨m, 3, none⟩ = some (.slice va vn vc) ∧
      ((w2.alloc (boxP nd (toB z))).drew.cell? ⟨w2.heap.size, 0, none⟩ = some (.pointer (some ⟨nd.b, 0, none⟩)) ∧ (w2.alloc (boxP nd (toB z))).drew.cell? ⟨w2.heap.size, 1, none⟩ = some (.string (toB z))) ∧
      ((w2.alloc (boxP nd (toB z))).drew.cell? ⟨m, 0, none⟩ = some (.int .i64 κ) ∧ (w2.alloc (boxP nd (toB z))).drew.cell? ⟨m, 1, none⟩ = some (.string p) ∧ (w2.alloc (boxP nd (toB z))).drew.cell? ⟨m, 2, none⟩ = some (.string q) ∧ (w2.alloc (boxP nd (toB z))).drew.cell? ⟨m, 3, none⟩ = some (.slice va vn vc)) ∧
      (w2.alloc (boxP nd (toB z))).drew.cell? ⟨nd.b, 0, none⟩ = some (.map (some k)) ∧
      (Instr.lookup 29 (.map (some k)) (.string (toB z)) true).run Tryz.prog (w2.alloc (boxP nd (toB z))).drew = .ok (.tuple #[.int .i64 ((look nd.kids (toB z)).getD 0), .bool (look nd.kids (toB z)).isSome]) (w2.alloc (boxP nd (toB z))).drew := by
  have h4 := h2.alloc (boxP nd (toB z))
  have h5 := h4.drew
  have b0 : (w2.alloc (boxP nd (toB z))).drew.cell? ⟨w2.heap.size, 0, none⟩ = some (.pointer (some ⟨nd.b, 0, none⟩)) := by show (w2.alloc _).cell? _ = _; rw [World.cell?_alloc_new]; rfl
  have b1 : (w2.alloc (boxP nd (toB z))).drew.cell? ⟨w2.heap.size, 1, none⟩ = some (.string (toB z)) := by show (w2.alloc _).cell? _ = _; rw [World.cell?_alloc_new]; rfl
  have hNW := (H1.at_.inWorld h5).node _ (look_mem ha.there)
  obtain ⟨c0, _, _⟩ := hNW.at0
  rw [ha.dir] at c0
  exact ⟨h5, by rw [h4.cellB m1]; rfl, ⟨b0, b1⟩, ⟨by rw [h5.cellB m1]; rfl, by rw [h5.cellB m1]; rfl, by rw [h5.cellB m1]; rfl, by rw [h5.cellB m1]; rfl⟩, c0, hNW.look ha.dir (toB z)⟩
set_option maxHeartbeats 2000000 in
theorem do_long {w0 w : World} {S : Blocks} {L : List Rw} {t : Nat} {T : Tr} (hO : Own ⟨w0, S⟩ w L) (H : Tree S (Pc L) t T) (hm : Mx w) (κ : Int) (h0 : ¬ κ < 0) (h6 : ¬ 6 < κ) (p q : ByteArray) (hp : p.size ≤ maxLen) {va : Option Addr} {vn vc : Nat} (hvn : (3500 : Int) < (vn : Int))
    {j : Int} {nd : Nd} {k : Nat} {z : List UInt8} (hc : placeT T p.data.toList = (0, some (j, nd, z))) (ha : At T j nd k) :
    Calls Tryz.prog 59 #[.pointer (some ⟨t, 0, none⟩), .agg (opL κ p q (.slice va vn vc)).toArray] w (DoL w0 S L t T w (fun T2 => T2 = T) (.int .i64 6)) := by
  obtain ⟨w1, S2, hw1, hsz, hO2, H1, m1, hsub, hlt, hB1⟩ := one_box hO H (boxO κ p q va vn vc)
  have o0 : w1.cell? ⟨w.heap.size, 0, none⟩ = some (.int .i64 κ) := by rw [hO2.cellB m1]; rfl
  have o1 : w1.cell? ⟨w.heap.size, 1, none⟩ = some (.string p) := by rw [hO2.cellB m1]; rfl
  have hpl := place_any (H1.at_.inWorld hO2) H.good p hp (hm.later hB1)
  rw [hc] at hpl
  have HO2 := Lib.hid hO2
  have hgen : ∀ w2, Own ⟨w0, S2⟩ w2 L → (w2.alloc (boxP nd (toB z))).cell? ⟨w.heap.size, 3, none⟩ = some (.slice va vn vc) ∧ DoL w0 S L t T w (fun T2 => T2 = T) (.int .i64 6) (.returned (.int .i64 6)) (w2.alloc (boxP nd (toB z))) := fun w2 h2 =>
    ⟨(do_facts h2 H1 m1 ha z).2.1, still_same 6 (h2.alloc _) H1 hsub⟩
  rw [hw1] at o0 o1 hpl
  clear hO H hO2 H1 m1 hsub hlt hsz hc hm hB1 ha
  dsimp only [placeL] at hpl
  go_enter Tryz.func59, Tryz.ntmps59
  go_wp2_with fail
  refine hpl.mono ?_
  rintro e w2 ⟨rfl, hb⟩
  rw [← hw1] at hb
  obtain ⟨x3, hD⟩ := hgen w2 (HO2.out.later hb)
  have HD := Lib.hid hD
  clear o0 o1 hpl hw1 hb hgen HO2 hD
  go_wp2_with fail
  go_ret
  exact HD.out
set_option maxHeartbeats 2000000 in
theorem do_twice {w0 w : World} {S : Blocks} {L : List Rw} {t : Nat} {T : Tr} (hO : Own ⟨w0, S⟩ w L) (H : Tree S (Pc L) t T) (hm : Mx w) (κ : Int) (hκ : κ = 0 ∨ κ = 2) (p q : ByteArray) (hp : p.size ≤ maxLen) {va : Option Addr} {vn vc : Nat} (hvn : ¬ (3500 : Int) < (vn : Int))
    {j : Int} {nd : Nd} {k : Nat} {z : List UInt8} (hc : placeT T p.data.toList = (0, some (j, nd, z))) (ha : At T j nd k) {i : Int} (hx : look nd.kids (toB z) = some i) :
    Calls Tryz.prog 59 #[.pointer (some ⟨t, 0, none⟩), .agg (opL κ p q (.slice va vn vc)).toArray] w (DoL w0 S L t T w (fun T2 => T2 = T) (.int .i64 9)) := by
  obtain ⟨w1, S2, hw1, hsz, hO2, H1, m1, hsub, hlt, hB1⟩ := one_box hO H (boxO κ p q va vn vc)
  have o0 : w1.cell? ⟨w.heap.size, 0, none⟩ = some (.int .i64 κ) := by rw [hO2.cellB m1]; rfl
  have o1 : w1.cell? ⟨w.heap.size, 1, none⟩ = some (.string p) := by rw [hO2.cellB m1]; rfl
  have hpl := place_any (H1.at_.inWorld hO2) H.good p hp (hm.later hB1)
  rw [hc] at hpl
  have HO2 := Lib.hid hO2
  have hgen := fun w2 (h2 : Own ⟨w0, S2⟩ w2 L) => do_facts h2 H1 m1 ha z
  rw [hx] at hgen
  have hD : ∀ w', Own ⟨w0, S2⟩ w' L → DoL w0 S L t T w (fun T2 => T2 = T) (.int .i64 9) (.returned (.int .i64 9)) w' := fun w' h => still_same 9 h H1 hsub
  rw [hw1] at o0 o1 hpl
  clear hO H hO2 H1 m1 hsub hlt hsz hc hm hB1 ha hx
  dsimp only [placeL, Option.getD_some, Option.isSome_some] at hpl hgen
  have h0 : ¬ κ < 0 := by rcases hκ with rfl | rfl <;> decide
  have h6 : ¬ 6 < κ := by rcases hκ with rfl | rfl <;> decide
  go_enter Tryz.func59, Tryz.ntmps59
  go_wp2_with fail
  refine hpl.mono ?_
  rintro e w2 ⟨rfl, hb⟩
  rw [← hw1] at hb
  obtain ⟨h5, x3, ⟨b0, b1⟩, ⟨y0, y1, y2, y3⟩, n0, hl⟩ := hgen w2 (HO2.out.later hb)
  have HD := Lib.hid (hD _ h5)
  clear o0 o1 hpl hw1 hb hgen HO2 hD h5
  go_wp2_with fail
  go_region
  rcases hκ with rfl | rfl
  · go_wp2_with fail
    go_ret
    exact HD.out
  · go_wp2_with fail
    go_ret
    exact HD.out
set_option maxHeartbeats 2000000 in
theorem do_none {w0 w : World} {S : Blocks} {L : List Rw} {t : Nat} {T : Tr} (hO : Own ⟨w0, S⟩ w L) (H : Tree S (Pc L) t T) (hm : Mx w) (κ : Int) (h0 : ¬ κ < 0) (h6 : ¬ 6 < κ) (k0 : (κ == 0) = false) (k2 : (κ == 2) = false) (p q : ByteArray) (hp : p.size ≤ maxLen) {va : Option Addr} {vn vc : Nat} (hvn : ¬ (3500 : Int) < (vn : Int))
    {j : Int} {nd : Nd} {k : Nat} {z : List UInt8} (hc : placeT T p.data.toList = (0, some (j, nd, z))) (ha : At T j nd k) (hx : look nd.kids (toB z) = none) :
    Calls Tryz.prog 59 #[.pointer (some ⟨t, 0, none⟩), .agg (opL κ p q (.slice va vn vc)).toArray] w (DoL w0 S L t T w (fun T2 => T2 = T) (.int .i64 8)) := by
  obtain ⟨w1, S2, hw1, hsz, hO2, H1, m1, hsub, hlt, hB1⟩ := one_box hO H (boxO κ p q va vn vc)
  have o0 : w1.cell? ⟨w.heap.size, 0, none⟩ = some (.int .i64 κ) := by rw [hO2.cellB m1]; rfl
  have o1 : w1.cell? ⟨w.heap.size, 1, none⟩ = some (.string p) := by rw [hO2.cellB m1]; rfl
  have hpl := place_any (H1.at_.inWorld hO2) H.good p hp (hm.later hB1)
  rw [hc] at hpl
  have HO2 := Lib.hid hO2
  have hgen := fun w2 (h2 : Own ⟨w0, S2⟩ w2 L) => do_facts h2 H1 m1 ha z
  rw [hx] at hgen
  have hD : ∀ w', Own ⟨w0, S2⟩ w' L → DoL w0 S L t T w (fun T2 => T2 = T) (.int .i64 8) (.returned (.int .i64 8)) w' := fun w' h => still_same 8 h H1 hsub
  rw [hw1] at o0 o1 hpl
  clear hO H hO2 H1 m1 hsub hlt hsz hc hm hB1 ha hx
  dsimp only [placeL, Option.getD_none, Option.isSome_none] at hpl hgen
  go_enter Tryz.func59, Tryz.ntmps59
  go_wp2_with fail
  refine hpl.mono ?_
  rintro e w2 ⟨rfl, hb⟩
  rw [← hw1] at hb
  obtain ⟨h5, x3, ⟨b0, b1⟩, ⟨y0, y1, y2, y3⟩, n0, hl⟩ := hgen w2 (HO2.out.later hb)
  have HD := Lib.hid (hD _ h5)
  clear o0 o1 hpl hw1 hb hgen HO2 hD h5
  go_wp2_with fail
  go_region
  go_wp2_with fail
  go_ret
  exact HD.out
set_option maxHeartbeats 2000000 in
theorem do_rm {w0 w : World} {S : Blocks} {L : List Rw} {t : Nat} {T : Tr} (hO : Own ⟨w0, S⟩ w L) (H : Tree S (Pc L) t T) (hm : Mx w) (p q : ByteArray) (hp : p.size ≤ maxLen) {va : Option Addr} {vn vc : Nat} (hvn : ¬ (3500 : Int) < (vn : Int))
    {j : Int} {nd : Nd} {k : Nat} {z : List UInt8} (hc : placeT T p.data.toList = (0, some (j, nd, z))) (ha : At T j nd k) {i : Int} (hx : look nd.kids (toB z) = some i) {R : Tr → Prop} {c : Int}
    (hcall : ∀ S' w', Own ⟨w0, S'⟩ w' L → Tree S' (Pc L) t T → Calls Tryz.prog 95 #[.pointer (some ⟨t, 0, none⟩), .agg #[.pointer (some ⟨nd.b, 0, none⟩), .string (toB z)], .int .i64 i] w' (DoL w0 S' L t T w' R (.int .i64 c))) :
    Calls Tryz.prog 59 #[.pointer (some ⟨t, 0, none⟩), .agg (opL 1 p q (.slice va vn vc)).toArray] w (DoL w0 S L t T w R (.int .i64 c)) := by
  obtain ⟨w1, S2, hw1, hsz, hO2, H1, m1, hsub, hlt, hB1⟩ := one_box hO H (boxO 1 p q va vn vc)
  have o0 : w1.cell? ⟨w.heap.size, 0, none⟩ = some (.int .i64 1) := by rw [hO2.cellB m1]; rfl
  have o1 : w1.cell? ⟨w.heap.size, 1, none⟩ = some (.string p) := by rw [hO2.cellB m1]; rfl
  have hpl := place_any (H1.at_.inWorld hO2) H.good p hp (hm.later hB1)
  rw [hc] at hpl
  have HO2 := Lib.hid hO2
  have hgen := fun w2 (h2 : Own ⟨w0, S2⟩ w2 L) => do_facts h2 H1 m1 ha z
  rw [hx] at hgen
  have hcl : ∀ w2, Own ⟨w0, S2⟩ w2 L → w.heap.size ≤ w2.heap.size → Calls Tryz.prog 95 #[.pointer (some ⟨t, 0, none⟩), .agg #[.pointer (some ⟨nd.b, 0, none⟩), .string (toB z)], .int .i64 i] w2 (fun e w' => e = .returned (.int .i64 c) ∧ DoL w0 S L t T w R (.int .i64 c) (.returned (.int .i64 c)) w') := fun w2 h2 h3 => (hcall S2 _ h2 H1).mono fun e w' hd => by
    obtain ⟨e1, hd2⟩ := hd.ret (.int .i64 c)
    subst e1
    exact ⟨rfl, hd2.more hsub h3 hlt⟩
  have hsz1 : w.heap.size ≤ w1.heap.size := by omega
  rw [hw1] at o0 o1 hpl
  clear hO H hO2 H1 m1 hsub hlt hsz hc hm hB1 ha hx hcall
  dsimp only [placeL, Option.getD_some, Option.isSome_some] at hpl hgen
  go_enter Tryz.func59, Tryz.ntmps59
  go_wp2_with fail
  refine hpl.mono ?_
  rintro e w2 ⟨rfl, hb⟩
  rw [← hw1] at hb
  obtain ⟨h5, x3, ⟨b0, b1⟩, ⟨y0, y1, y2, y3⟩, n0, hl⟩ := hgen w2 (HO2.out.later hb)
  have hcl2 := hcl _ h5 (by show _ ≤ (w2.alloc _).heap.size; have := hb.size; simp; omega)
  clear o0 o1 hpl hw1 hb hgen HO2 h5 hcl hsz1
  go_wp2_with fail
  go_region
  go_wp2_with fail
  refine hcl2.mono ?_
  rintro e w3 ⟨rfl, hD⟩
  have HD := Lib.hid hD
  clear hD hcl2
  go_wp2_with fail
  go_ret
  exact HD.out
set_option maxHeartbeats 2000000 in
theorem do_isdir {w0 w : World} {S : Blocks} {L : List Rw} {t : Nat} {T : Tr} (hO : Own ⟨w0, S⟩ w L) (H : Tree S (Pc L) t T) (hm : Mx w) (κ : Int) (h0 : ¬ κ < 0) (h6 : ¬ 6 < κ) (k0 : (κ == 0) = false) (k1 : (κ == 1) = false) (k2 : (κ == 2) = false) (p q : ByteArray) (hp : p.size ≤ maxLen) {va : Option Addr} {vn vc : Nat} (hvn : ¬ (3500 : Int) < (vn : Int))
    {j : Int} {nd : Nd} {k : Nat} {z : List UInt8} (hc : placeT T p.data.toList = (0, some (j, nd, z))) (ha : At T j nd k) {i : Int} (hx : look nd.kids (toB z) = some i) {f : Nd} (hi : look T.nodes i = some f) (hf : f.k.isSome = true) :
    Calls Tryz.prog 59 #[.pointer (some ⟨t, 0, none⟩), .agg (opL κ p q (.slice va vn vc)).toArray] w (DoL w0 S L t T w (fun T2 => T2 = T) (.int .i64 10)) := by
  obtain ⟨w1, S2, hw1, hsz, hO2, H1, m1, hsub, hlt, hB1⟩ := one_box hO H (boxO κ p q va vn vc)
  have o0 : w1.cell? ⟨w.heap.size, 0, none⟩ = some (.int .i64 κ) := by rw [hO2.cellB m1]; rfl
  have o1 : w1.cell? ⟨w.heap.size, 1, none⟩ = some (.string p) := by rw [hO2.cellB m1]; rfl
  have hpl := place_any (H1.at_.inWorld hO2) H.good p hp (hm.later hB1)
  rw [hc] at hpl
  have HO2 := Lib.hid hO2
  have hgen := fun w2 (h2 : Own ⟨w0, S2⟩ w2 L) => do_facts h2 H1 m1 ha z
  rw [hx] at hgen
  have hmore : ∀ w2, Own ⟨w0, S2⟩ w2 L → w2.cell? ⟨t, 2, none⟩ = some (.map (some T.bm)) ∧ (Instr.lookup 80 (.map (some T.bm)) (.int .i64 i) false).run Tryz.prog w2 = .ok (.pointer (some ⟨f.b, 0, none⟩)) w2 ∧ Calls Tryz.prog 96 #[.pointer (some ⟨f.b, 0, none⟩)] w2 (fun e w' => e = .returned (.bool true) ∧ w2 = w') ∧ DoL w0 S L t T w (fun T2 => T2 = T) (.int .i64 10) (.returned (.int .i64 10)) w2 := fun w2 h2 => by
    have hl2 := (H1.at_.inWorld h2).look i
    rw [hi] at hl2
    have hdir := dir_any ((H1.at_.inWorld h2).node _ (look_mem hi))
    rw [hf] at hdir
    exact ⟨(H1.at_.inWorld h2).at0.2.2, hl2, hdir, still_same 10 h2 H1 hsub⟩
  rw [hw1] at o0 o1 hpl
  clear hO H hO2 H1 m1 hsub hlt hsz hc hm hB1 ha hx hi hf
  dsimp only [placeL, Option.getD_some, Option.isSome_some] at hpl hgen
  go_enter Tryz.func59, Tryz.ntmps59
  go_wp2_with fail
  refine hpl.mono ?_
  rintro e w2 ⟨rfl, hb⟩
  rw [← hw1] at hb
  obtain ⟨h5, x3, ⟨b0, b1⟩, ⟨y0, y1, y2, y3⟩, n0, hl⟩ := hgen w2 (HO2.out.later hb)
  obtain ⟨t2, hl2, hdir, hD⟩ := hmore _ h5
  have HD := Lib.hid hD
  clear o0 o1 hpl hw1 hb hgen HO2 hD h5 hmore
  go_wp2_with fail
  go_region
  go_wp2_with (go_at_call 96; refine hdir.mono ?_; rintro e w' ⟨rfl, rfl⟩)
  go_ret
  exact HD.out
end Go.Proofs.YtkhnkidggcjfeaaGreatDoor
end
section
namespace Go.Proofs.YtkhnkidggcjfeaaGreatDoor
open Go.RowKit
open Go.ChangeMaps (setBlock)
def doAllE (E : Et) : List OpE → Option Et
  | [] => some E
  | o :: r => (doE E o).bind fun E2 => doAllE E2 r
structure OpIn (w0 : World) (S : Blocks) (L : List Rw) (o : OpD) (x : OpE) : Prop where
  kind : x.kind = o.kind
  l : x.l = o.p.data.toList
  l2 : x.l2 = o.q.data.toList
  p : o.p.size ≤ maxLen
  q : o.q.size ≤ maxLen
  n : o.n = x.zs.length
  data : Byo w0 S [] L (.slice o.a o.n o.c) x.zs
end Go.Proofs.YtkhnkidggcjfeaaGreatDoor
end
