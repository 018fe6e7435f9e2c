/- Texts one behind the other, each in a section of its own: what calls make of memory, step by step. -/
import Derived.Test.YtnjabanjgckeoaaGreatDoorPackMgrRetries1
import Derived.Deep.DrawnRows
import Derived.Laws.ResultCell
import Derived.Laws.MakeOwn
import Derived.RegionTactic
import Derived.BigRegion
import Derived.Deep.Draws
import Derived.Test.YtnjabanjgckeoaaGreatDoorProg
import Derived.WalkLawsBesides
import Derived.Outline
import Derived.Lib.Hide
import Derived.Lib.AppendZerosOnto
import Derived.Lib.SliceRun
import Derived.Deep.QuietTactic
import Derived.BigQuiet
import Derived.Laws.BitsAllLaws
import Derived.Laws.BytesArg
import Derived.RowKit
import Derived.WalkKit

/- Write, Flush, Read and New of a disk. -/
section
namespace Go.Proofs.YtnjabanjgckeoaaGreatDoor
open Go.RowKit
set_option linter.unusedVariables false
set_option linter.unusedSimpArgs false

theorem info_w : (Tryz.prog.info? 329).map (fun i => (i.zero, i.size, i.bytes)) = some (some (.agg zW.toArray), 65, 72) := by kernel_rfl
theorem zW_size : (Value.agg zW.toArray).cells.size = 65 := by kernel_rfl
theorem built_write64 (x : Int) (a0 a1 a2 a3 a4 a5 a6 a7 a8 a9 a10 a11 a12 a13 a14 a15 a16 a17 a18 a19 a20 a21 a22 a23 a24 a25 a26 a27 a28 a29 a30 a31 a32 a33 a34 a35 a36 a37 a38 a39 a40 a41 a42 a43 a44 a45 a46 a47 a48 a49 a50 a51 a52 a53 a54 a55 a56 a57 a58 a59 a60 a61 a62 a63 : Value) : Tryz.prog.built 329 [(0, .int .i64 x), (1, .agg #[a0, a1, a2, a3, a4, a5, a6, a7, a8, a9, a10, a11, a12, a13, a14, a15, a16, a17, a18, a19, a20, a21, a22, a23, a24, a25, a26, a27, a28, a29, a30, a31, a32, a33, a34, a35, a36, a37, a38, a39, a40, a41, a42, a43, a44, a45, a46, a47, a48, a49, a50, a51, a52, a53, a54, a55, a56, a57, a58, a59, a60, a61, a62, a63])] = some #[.int .i64 x, a0, a1, a2, a3, a4, a5, a6, a7, a8, a9, a10, a11, a12, a13, a14, a15, a16, a17, a18, a19, a20, a21, a22, a23, a24, a25, a26, a27, a28, a29, a30, a31, a32, a33, a34, a35, a36, a37, a38, a39, a40, a41, a42, a43, a44, a45, a46, a47, a48, a49, a50, a51, a52, a53, a54, a55, a56, a57, a58, a59, a60, a61, a62, a63] := by kernel_rfl
theorem built_write (x : Int) (s : List Value) (hs : s.length = 64) : Tryz.prog.built 329 [(0, .int .i64 x), (1, .agg s.toArray)] = some (Value.int .i64 x :: s).toArray := by
  match s, hs with
  | a0 :: a1 :: a2 :: a3 :: a4 :: a5 :: a6 :: a7 :: a8 :: a9 :: a10 :: a11 :: a12 :: a13 :: a14 :: a15 :: a16 :: a17 :: a18 :: a19 :: a20 :: a21 :: a22 :: a23 :: a24 :: a25 :: a26 :: a27 :: a28 :: a29 :: a30 :: a31 :: a32 :: a33 :: a34 :: a35 :: a36 :: a37 :: a38 :: a39 :: a40 :: a41 :: a42 :: a43 :: a44 :: a45 :: a46 :: a47 :: a48 :: a49 :: a50 :: a51 :: a52 :: a53 :: a54 :: a55 :: a56 :: a57 :: a58 :: a59 :: a60 :: a61 :: a62 :: a63 :: [], _ => exact built_write64 x a0 a1 a2 a3 a4 a5 a6 a7 a8 a9 a10 a11 a12 a13 a14 a15 a16 a17 a18 a19 a20 a21 a22 a23 a24 a25 a26 a27 a28 a29 a30 a31 a32 a33 a34 a35 a36 a37 a38 a39 a40 a41 a42 a43 a44 a45 a46 a47 a48 a49 a50 a51 a52 a53 a54 a55 a56 a57 a58 a59 a60 a61 a62 a63

/-! Three operations on many cells at once, as rules for a region that draws its order. -/
def okSec (w : World) (v : Value) : Prop := ∃ b o, v = .pointer (some ⟨b, o, none⟩) ∧ ∀ j, j < 64 → (w.cell? ⟨b, o + j, none⟩).isSome = true
def secOf (w : World) (v : Value) : Value := match v with
  | .pointer (some ⟨b, o, _⟩) => .agg ((List.range 64).map fun j => (w.cell? ⟨b, o + j, none⟩).getD undef).toArray
  | _ => undef
theorem sec_range (w : World) (b o : Nat) (h : ∀ j, j < 64 → (w.cell? ⟨b, o + j, none⟩).isSome = true) : w.rangeAt b o ((List.range 64).map fun j => (w.cell? ⟨b, o + j, none⟩).getD undef) := by
  intro j v hj
  have hj64 : j < 64 := by
    rcases Nat.lt_or_ge j 64 with h1 | h1
    · exact h1
    · rw [List.getElem?_eq_none (by simpa using h1)] at hj; cases hj
  rw [List.getElem?_map, List.getElem?_range hj64] at hj
  obtain ⟨u, hu⟩ := Option.isSome_iff_exists.1 (h j hj64)
  simp only [Option.map_some, Option.some.injEq] at hj
  rw [hu] at hj ⊢
  rw [← hj]
  rfl
theorem sec_is {w : World} {b o : Nat} {s : List Value} (hr : w.rangeAt b o s) (hs : s.length = 64) : okSec w (.pointer (some ⟨b, o, none⟩)) ∧ secOf w (.pointer (some ⟨b, o, none⟩)) = .agg s.toArray := by
  have h1 : ∀ j, j < 64 → w.cell? ⟨b, o + j, none⟩ = s[j]? := fun j hj => by rw [hr j s[j] (List.getElem?_eq_getElem (by omega)), List.getElem?_eq_getElem (by omega)]
  refine ⟨⟨b, o, rfl, fun j hj => by rw [h1 j hj, List.getElem?_eq_getElem (by omega)]; rfl⟩, ?_⟩
  show Value.agg _ = _
  congr 2
  apply List.ext_getElem (by simp [hs])
  intro j h2 h3
  rw [List.getElem_map, List.getElem_range, h1 j (by simpa using h2), List.getElem?_eq_getElem h3]
  rfl
theorem wp_load_sec {dd : Option Tmp} {x : Operand} {ty : TypeId} {ps : String} {af : Array Edge} {gd : Option (Nat × Bool)} {a : Act} {w : World} {K : Act → World → Prop} {Q : Exit → Act → World → Prop} (h : okSec w (a.eval x)) :
    Oper.wp Tryz.prog ⟨dd, .load 200 x, ty, ps, af, gd⟩ a w K Q = K (a.put dd (secOf w (a.eval x))) w := by
  obtain ⟨b, o, hx, hj⟩ := h
  have hr := run_loadAt_mid (P := Tryz.prog) w b o _ _ _ (sec_range w b o hj) Tryz.underlying200 rfl (by rw [List.length_map, List.length_range]; exact info_sector)
  unfold Oper.wp execOp
  simp only [hx, Sem.run_bind, hr, Result.andThen_ok, Sem.run_pure]
  rfl
def okWr (v u : Value) : Prop := ∃ (x : Int) (s : List Value), v = .int .i64 x ∧ u = .agg s.toArray ∧ s.length = 64
def wrOf (v u : Value) : Value := .agg (v :: u.cells.toList).toArray
theorem wp_build_wr {dd : Option Tmp} {x y : Operand} {ty : TypeId} {ps : String} {af : Array Edge} {gd : Option (Nat × Bool)} {a : Act} {w : World} {K : Act → World → Prop} {Q : Exit → Act → World → Prop} (h : okWr (a.eval x) (a.eval y)) :
    Oper.wp Tryz.prog ⟨dd, .build 329 #[(0, x), (1, y)], ty, ps, af, gd⟩ a w K Q = K (a.put dd (wrOf (a.eval x) (a.eval y))) w := by
  obtain ⟨n, s, hx, hy, hs⟩ := h
  have hr := run_build (P := Tryz.prog) w 329 #[(0, .int .i64 n), (1, .agg s.toArray)] _ (built_write n s hs)
  unfold Oper.wp execOp
  simp only [List.map_toArray, List.map_cons, List.map_nil, hx, hy, Sem.run_bind, hr, Result.andThen_ok, Sem.run_pure]
  rfl
/-- What a write is built as, where the zero's cells have a name of their own. -/
theorem built_fold (Z : Array Value) (hZ : Z.size = 65) (v : Value) (s : List Value) (hs : s.length = 64) : List.foldl (fun (cs : Array Value) (x : Value × Nat) => cs.setIfInBounds (1 + x.snd) x.fst) (Z.setIfInBounds 0 v) s.zipIdx = (v :: s).toArray := by
  have h := fold_splice s (Z.setIfInBounds 0 v) 1 0
  rw [Nat.add_zero] at h
  apply Array.ext'
  refine h.trans ?_
  apply List.ext_getElem?
  intro i
  have hl : (Z.setIfInBounds 0 v).toList.length = 65 := by simp [hZ]
  rw [splice_get _ _ _ _ (by rw [hl, hs]; omega)]
  rcases i with _ | i
  · rw [if_neg (by omega), Array.toList_setIfInBounds, List.getElem?_set_self (by rw [Array.length_toList]; omega)]
    rfl
  · by_cases hi : i < 64
    · rw [if_pos (by omega)]
      simp
    · rw [if_neg (by omega), List.getElem?_eq_none (by rw [hl]; omega), List.getElem?_eq_none (by simp [hs]; omega)]
def okRow (v : Value) : Prop := ∃ cs : List Value, v = .agg cs.toArray ∧ cs.length = 65
theorem wp_slice_wr {dd : Option Tmp} {x : Operand} {ty : TypeId} {ps : String} {af : Array Edge} {gd : Option (Nat × Bool)} {a : Act} {w : World} {K : Act → World → Prop} {Q : Exit → Act → World → Prop} (h : okRow (a.eval x)) :
    Oper.wp Tryz.prog ⟨dd, .buildSlice 173 1 #[(0, x)], ty, ps, af, gd⟩ a w K Q = K (a.put dd (.slice (some ⟨w.heap.size, 0, none⟩) 1 1)) (w.alloc (.cells (a.eval x).cells 329)) := by
  obtain ⟨cs, hx, hs⟩ := h
  obtain ⟨i0, hi, hz0, hz1, hz2⟩ := info_parts info_w
  have hr := run_buildSlice_one (P := Tryz.prog) w 173 329 65 i0 (.agg zW.toArray) Tryz.underlying173 hi hz1 hz0 zW_size (by decide) (by decide) cs hs
  unfold Oper.wp execOp
  simp only [List.map_toArray, List.map_cons, List.map_nil, hx, Sem.run_bind, hr, Result.andThen_ok, Sem.run_pure]
  rfl
attribute [local go_sem ↓] wp_load_sec wp_build_wr wp_slice_wr Go.wp_at_zero Go.wp_at_succ

theorem put_c2 {W0 : Base} {w : World} {d kb lb n : Nat} {sv : Value} {D : Dk} {L : List Rw} {r1 r2 r3 : Rw} (h : Own W0 w (r3 :: rowD d kb lb sv n D :: r1 :: r2 :: L)) : w.cell? ⟨d, 2, none⟩ = some sv := Own.cell (h := h.swap) 2 (by decide)
theorem put_f2 {W0 : Base} {w : World} {d kb lb n : Nat} {sv : Value} {D : Dk} {L : List Rw} {r1 r2 r3 : Rw} (h : Own W0 w (r3 :: rowD d kb lb sv n D :: r1 :: r2 :: L)) : w.frozen? ⟨d, 2, none⟩ = false := Own.free (h := h.swap) 2
/-- A write more. -/
theorem put_since {W0 : Base} {w : World} {d kb lb n : Nat} {sv : Value} {D : Dk} {L : List Rw} {M : List (List Value)} {v' : Value} {p : Nat × List Value} (h : Own W0 w (rowS v' (D.since ++ [p]) :: rowD d kb lb sv n D :: rowK kb n D.kept :: rowK lb n M :: L)) :
    Own W0 (w.setCell ⟨d, 2, none⟩ v') (rowsOf d kb lb v' n { D with last := M, since := D.since ++ [p] } L) :=
  Own.set (h := h.unfourth) 2 v'

theorem put_at {W0 : Base} {w : World} {d kb lb n x : Nat} {sv v' : Value} {s : List Value} {D : Dk} {L : List Rw} (h : Own W0 w (⟨329, 65, v', D.since.length + 1, (D.since.map wcells).flatten ++ (Value.int .i64 (x : Int) :: s)⟩ :: rowD d kb lb sv n { D with last := D.last.set x s } :: rowK kb n D.kept :: rowK lb n (D.last.set x s) :: L))
    (hok : (putM D x s).Ok) (hn : n = (D.last.set x s).length) : DkAt W0 (w.setCell ⟨d, 2, none⟩ v') d (putM D x s) L := by
  have e : (D.since.map wcells).flatten ++ Value.int .i64 (x : Int) :: s = ((D.since ++ [(x, s)]).map wcells).flatten := by simp [wcells]
  have e2 : D.since.length + 1 = (D.since ++ [(x, s)]).length := by simp
  rw [e, e2] at h
  exact ⟨hok, kb, lb, n, v', hn, put_since (D := D) (M := D.last.set x s) (p := (x, s)) h⟩

set_option maxHeartbeats 3200000 in
set_option maxRecDepth 100000 in
theorem write_any (W0 : Base) (w : World) (d : Nat) (D : Dk) (L : List Rw) (at_ : Int) (s : List Value) (h : DkAt W0 w d D L) (hs : isSec s) (hst : D.steps < 9223372036854775807) (hsi : D.since.length < 1000000) :
    Calls Tryz.prog 221 #[.pointer (some ⟨d, 0, none⟩), .int .i64 at_, .agg s.toArray] w fun e w' => e = .returned (.int .i64 (writeM D at_ s).2) ∧ DkAt W0 w' d (writeM D at_ s).1 L := by
  have hb := h.alloc (.cells s.toArray 200)
  by_cases hr : refusedM D at_ = 0
  · have hr1 : (refusedM D at_ == 0) = true := by rw [hr]; rfl
    have hr2 : (refusedM D at_ != 0) = false := by rw [hr]; rfl
    obtain ⟨hD, kb, lb, n, sv, hn, hO⟩ := h
    have hO1 : Own W0 (w.alloc (.cells s.toArray 200)) (⟨200, 64, .slice (some ⟨w.heap.size, 0, none⟩) 1 1, 1, s⟩ :: rowsOf d kb lb sv n D L) := by
      have := hO.made 200 64 s.toArray 1 (by simp [hs.1]) (by unfold maxLen; decide)
      simpa using this
    have hat : ∃ x : Nat, at_ = (x : Int) ∧ x < n := by
      unfold refusedM at hr
      split at hr
      · cases hr
      · split at hr
        · cases hr
        · exact ⟨at_.toNat, by omega, by omega⟩
    obtain ⟨x, rfl, hx⟩ := hat
    have hE : writeM D x s = stepM (putM D x s) := by unfold writeM; rw [if_neg (by simpa using hr), Int.toNat_natCast]
    have hok := putM_ok D hD x s (by omega) hs hsi
    obtain ⟨i0, hi, hz0, hz1, hz2⟩ := info_parts info_w
    have his : (Tryz.prog.info? 200).map (·.size) = some s.length := by rw [hs.1]; exact info_sector
    have hiw : (Tryz.prog.info? 329).map (·.size) = some 65 := info_write
    have hx0 : (0 : Int) ≤ (x : Int) := by omega
    have hx1 : (x : Int) < (n : Int) := by omega
    have hbw := built_write x s hs.1
    have hm := hD.many
    have HE := Lib.hid hE
    have Hok := Lib.hid hok
    have Hb := Lib.hid hb
    have Hs := Lib.hid hs
    have Hr := Lib.hid hr
    have Hn := Lib.hid hn
    have Hbw := Lib.hid hbw
    have Hsi := Lib.hid hsi
    have HlastN := Lib.hid (show (D.last.set x s).length = n by rw [List.length_set]; exact hn.symm)
    have Hlast := Lib.hid (fun t ht => (hD.last t ht).1 : ∀ t ∈ D.last, t.length = 64)
    clear hE hok hb hr hn hbw hO hs hsi
    go_enter Tryz.func221, Tryz.ntmps221
    go_wp2_with (go_at_call 164; refine (refused_any W0 _ d D L (x : Int) Hb.out).mono ?_; rintro e w' ⟨rfl, rfl⟩)
    clear Hb
    generalize hW1 : w.alloc (.cells s.toArray 200) = w1 at *
    generalize w.heap.size = H at *
    clear hW1
    have c1 := own_c1 hO1.tail
    have cb : w1.rangeAt H 0 s := by have := hO1.range 0 64; rw [List.drop_zero, ← Hs.out.1, List.take_length] at this; exact this
    have ck : w1.there lb (x * 64) 64 := Own.there (h := hO1.tail.third) (x * 64) 64 (by show x * 64 + 64 ≤ n * 64; omega)
    have hO2 : Own W0 (w1.drew.setCells lb (x * 64) s) (⟨200, 64, .slice (some ⟨H, 0, none⟩) 1 1, 1, s⟩ :: rowsOf d kb lb sv n { D with last := D.last.set x s } L) := by
      have h1 := (Own.setCells (h := (hO1.drew).fourth) s (x * 64)).unfourth
      rw [flat_splice 64 (by decide) D.last Hlast.out x (by rw [← Hn.out]; exact hx) s Hs.out.1] at h1
      exact h1
    go_still_tail 7, (by kernel_rfl)
    refine wpStill_load_mid rfl 200 (.tmp 5) rfl H 0 rfl s _ cb Tryz.underlying200 rfl his ?_
    repeat still_step
    refine wpStill_nil ?_
    change wpList _ _ _ _ _ w1.drew
    refine wpList_store_mid rfl 200 (.tmp 20) (.tmp 19) rfl lb (x * 64) s.toArray rfl rfl ?_ ?_ (all_oneCell_toArray Hs.out.2) ?_
    · simpa [Hs.out.1] using ck
    · simpa using his
    generalize hW2 : (w1.drew.setCells lb (x * 64) s.toArray.toList) = w2
    have hO2' : Own W0 w2 (⟨200, 64, .slice (some ⟨H, 0, none⟩) 1 1, 1, s⟩ :: rowsOf d kb lb sv n { D with last := D.last.set x s } L) := by rw [← hW2]; exact hO2
    clear hW2 hO2 c1 cb ck hO1
    have c2 := own_c2 hO2'.tail
    have cb : w2.rangeAt H 0 s := by have := hO2'.range 0 64; rw [List.drop_zero, ← Hs.out.1, List.take_length] at this; exact this
    go_wp2_with fail
    have hs64 := Hs.out.1
    have hs1 := Hs.out.2
    have hu39 := Tryz.underlying200
    have hdlt : d < w2.heap.size := (hO2'.tail.lt (List.mem_cons_self ..) (k := d) rfl).2
    have hsrc : ∀ (W : World), Src (W.alloc (.cells (Value.int .i64 (x : Int) :: s).toArray 329)) (.slice (some ⟨W.heap.size, 0, none⟩) 1 1) 1 (Value.int .i64 (x : Int) :: s) := fun W => by
      refine .inr ⟨_, _, rfl, fun j u hj => ?_, fun u hu => ?_⟩
      · rw [Addr.add_mid, Nat.zero_add, World.cell?_alloc_new]
        simpa using hj
      · rcases List.mem_cons.1 hu with rfl | hu
        · rfl
        · exact hs1 u hu
    have hnl : (Value.int .i64 (x : Int) :: s).length = 1 * 65 := by simp [hs64]
    have h63 : D.since.length + 1 ≤ maxLen := by unfold maxLen; omega
    have hby : (D.since.length + 1) * 72 ≤ 140737488355328 := by omega
    have Hnl := Lib.hid hnl
    have H63 := Lib.hid h63
    have Hby := Lib.hid hby
    clear hnl h63 hby
    have q1 : okSec w2.drew (.pointer (some ⟨H, 0, none⟩)) := (sec_is (w := w2.drew) cb hs64).1
    have q2 : ∀ o : Obj, okSec (w2.alloc o).drew (.pointer (some ⟨H, 0, none⟩)) := fun o => (sec_is (w := (w2.alloc o).drew) (World.rangeAt_alloc cb o) hs64).1
    have q3 : secOf w2.drew (.pointer (some ⟨H, 0, none⟩)) = .agg s.toArray := (sec_is (w := w2.drew) cb hs64).2
    have q4 : ∀ o : Obj, secOf (w2.alloc o).drew (.pointer (some ⟨H, 0, none⟩)) = .agg s.toArray := fun o => (sec_is (w := (w2.alloc o).drew) (World.rangeAt_alloc cb o) hs64).2
    have q5 : okWr (.int .i64 (x : Int)) (.agg s.toArray) := ⟨_, s, rfl, rfl, hs64⟩
    have q6 : wrOf (.int .i64 (x : Int)) (.agg s.toArray) = .agg (Value.int .i64 (x : Int) :: s).toArray := rfl
    have q7 : okRow (.agg (Value.int .i64 (x : Int) :: s).toArray) := ⟨_, rfl, by simp [hs64]⟩
    have q8 : (Value.agg (Value.int .i64 (x : Int) :: s).toArray).cells = (Value.int .i64 (x : Int) :: s).toArray := rfl
    first | (have hfold : List.foldl (fun (cs : Array Value) (x : Value × Nat) => cs.setIfInBounds (1 + x.snd) x.fst) (Tryz.zeroCells329.setIfInBounds 0 (Value.int .i64 (x : Int))) s.zipIdx = (Value.int .i64 (x : Int) :: s).toArray := built_fold _ (by kernel_rfl) _ _ hs64) | skip
    go_region_law (first
      | ((refine step_append_src (by rfl) (.tmp 25) (.tmp 29) 173 (by rfl) sv D.since.length (D.since.map wcells).flatten (.slice (some ⟨w2.heap.size, 0, none⟩) 1 1) 1 (Value.int .i64 (x : Int) :: s) (by rfl) (by rfl) (hO2'.tail.alloc _).drew.fourth i0 (.agg zW.toArray) 72 Tryz.underlying173 hi hz0 hz1 hz2 zW_size (by decide) (hsrc w2) Hnl.out H63.out Hby.out ?_; intro v3 w3 hO3; obtain ⟨g3, cp3, rfl, _, _⟩ := hO3.form (by omega); have c2' := put_c2 hO3; have f2' := put_f2 hO3)))
    all_goals
      have hA := put_at hO3 Hok.out HlastN.out.symm
      have HA := Lib.hid hA
      clear hO2' c2 cb hA hO3 q1 q2 q3 q4 q5 q6 q7 q8 hsrc c2' f2' hdlt
      have hst' : (putM D x s).steps < 9223372036854775807 := hst
      go_wp2_with fail
      refine (step_any W0 _ d (putM D x s) L HA.out hst').mono ?_
      rintro e w4 ⟨rfl, hA4⟩
      have HA4 := Lib.hid hA4
      clear hA4
      go_wp2_with fail
      go_ret
      exact ⟨by rw [HE.out]; rfl, by rw [HE.out]; exact HA4.out⟩
  · have hr2 : (refusedM D at_ != 0) = true := by simpa using hr
    have hE : writeM D at_ s = (D, refusedM D at_) := by unfold writeM; rw [if_pos hr]
    have HE := Lib.hid hE
    have Hb := Lib.hid hb
    clear hE hr hb
    go_enter Tryz.func221, Tryz.ntmps221
    go_wp2_with (go_at_call 164; refine (refused_any W0 _ d D L at_ Hb.out).mono ?_; rintro e w' ⟨rfl, rfl⟩)
    go_ret
    exact ⟨by rw [HE.out]; rfl, by rw [HE.out]; exact Hb.out⟩

theorem flush_any (W0 : Base) (w : World) (d : Nat) (D : Dk) (L : List Rw) (h : DkAt W0 w d D L) (hst : D.steps < 9223372036854775807) :
    Calls Tryz.prog 222 #[.pointer (some ⟨d, 0, none⟩)] w fun e w' => e = .returned (.int .i64 (flushM D).2) ∧ DkAt W0 w' d (flushM D).1 L := by
  have h' := h
  obtain ⟨hD, kb, lb, n, sv, hn, hO⟩ := h
  have c6 := own_c6 hO
  clear hn hO
  have H0 := Lib.hid h'
  cases hb : D.down
  · rw [hb] at c6
    by_cases h2 : (stepM D).2 = 0
    · have h2' : ((stepM D).2 != 0) = false := by rw [h2]; rfl
      have hE : flushM D = (settleM (stepM D).1 18446744073709551615, 0) := by unfold flushM; rw [hb]; simp [h2]
      have HE := Lib.hid hE
      clear hE h2 hb h'
      go_enter Tryz.func222, Tryz.ntmps222
      go_wp2_with fail
      refine (step_any W0 _ d D L H0.out hst).mono ?_
      rintro e w4 ⟨rfl, hA4⟩
      have HA4 := Lib.hid hA4
      clear hA4
      go_wp2_with fail
      obtain ⟨hD4, kb, lb, n, sv, hn4, hO4⟩ := HA4.out
      refine (settle_any W0 w4 d kb lb n sv _ L 18446744073709551615 hO4 hD4 hn4 (by decide) (by decide)).mono ?_
      rintro e w5 ⟨rfl, hO5⟩
      have HA5 := Lib.hid (show DkAt W0 w5 d (settleM (stepM D).1 18446744073709551615) L from ⟨settleM_ok _ hD4 _, kb, lb, n, _, by rw [hn4]; exact (lastTo_length _ _ _).symm, hO5⟩)
      clear hO5 hO4 hn4 hD4
      go_wp2_with fail
      go_ret
      exact ⟨by rw [HE.out]; rfl, by rw [HE.out]; exact HA5.out⟩
    · have h2' : ((stepM D).2 != 0) = true := by simpa using h2
      have hE : flushM D = stepM D := by unfold flushM; rw [hb]; simp [h2]
      have HE := Lib.hid hE
      clear hE h2 hb h'
      go_enter Tryz.func222, Tryz.ntmps222
      go_wp2_with fail
      refine (step_any W0 _ d D L H0.out hst).mono ?_
      rintro e w4 ⟨rfl, hA4⟩
      have HA4 := Lib.hid hA4
      clear hA4
      go_wp2_with fail
      go_ret
      exact ⟨by rw [HE.out]; rfl, by rw [HE.out]; exact HA4.out⟩
  · rw [hb] at c6
    have hE : flushM D = (D, 3) := by unfold flushM; rw [hb]; rfl
    have HE := Lib.hid hE
    clear hE hb h'
    go_enter Tryz.func222, Tryz.ntmps222
    go_wp2_with fail
    go_ret
    exact ⟨by rw [HE.out]; rfl, by rw [HE.out]; exact H0.out⟩
end Go.Proofs.YtnjabanjgckeoaaGreatDoor
end

/- Read and New of a disk. -/
section
namespace Go.Proofs.YtnjabanjgckeoaaGreatDoor
open Go.RowKit
set_option linter.unusedVariables false
set_option linter.unusedSimpArgs false

def readM (D : Dk) (at_ : Int) : List Value × Int := if refusedM D at_ ≠ 0 then (zSec, refusedM D at_) else (D.last.getD at_.toNat [], 0)
theorem built_sector : Tryz.prog.built 200 [] = some zSec.toArray := by kernel_rfl
theorem zSec_sec : isSec zSec := ⟨by decide, by decide⟩
/-- A result of many cells, beside one of one. -/
theorem ret_cell_tmp {P : Program} {fn : Func} {p u : Tmp} {ty : TypeId} (h : fn.results = #[.cell p ty, .tmp u]) {tmps : Array Value} {w : World} {b : Nat} {cs : List Value} {v : Value} {d : TypeDesc} (hp : tmps.getD p undef = .pointer (some ⟨b, 0, none⟩)) (hu : tmps.getD u undef = v)
    (hr : w.rangeAt b 0 cs) (ht : P.underlying ty = some d) (hd : d.isRow = true) (hi : (P.info? ty).map (·.size) = some cs.length) : (results fn tmps).run P w = .ok (.tuple #[.agg cs.toArray, v]) w := by
  rw [results_cell_tmp h, hp, hu]
  have e : (asAddr (.pointer (some ⟨b, 0, none⟩))).run P w = .ok ⟨b, 0, none⟩ w := rfl
  rw [e]
  simp only [Result.andThen_ok, run_loadVar_mid w b 0 ty cs d hr ht hd hi]

set_option maxHeartbeats 1600000 in
set_option maxRecDepth 100000 in
theorem read_any (W0 : Base) (w : World) (d : Nat) (D : Dk) (L : List Rw) (at_ : Int) (h : DkAt W0 w d D L) :
    Calls Tryz.prog 117 #[.pointer (some ⟨d, 0, none⟩), .int .i64 at_] w fun e w' => e = .returned (.tuple #[.agg (readM D at_).1.toArray, .int .i64 (readM D at_).2]) ∧ Below w.heap.size w w' := by
  have hzs := zero_sector
  have h0 : Own w w [] := Own.start w
  have hz : (Tryz.prog.info? 200).map (·.size) = some zSec.length := info_sector
  by_cases hr : refusedM D at_ = 0
  · have hr2 : (refusedM D at_ != 0) = false := by rw [hr]; rfl
    obtain ⟨hD, kb, lb, n, sv, hn, hO⟩ := id h
    have hat : ∃ x : Nat, at_ = (x : Int) ∧ x < n := by
      unfold refusedM at hr
      split at hr
      · cases hr
      · split at hr
        · cases hr
        · exact ⟨at_.toNat, by omega, by omega⟩
    obtain ⟨x, rfl, hx⟩ := hat
    have hE : readM D x = (D.last.getD x [], 0) := by unfold readM; rw [if_neg (by simpa using hr), Int.toNat_natCast]
    have hgd : D.last.getD x [] = D.last[x]'(by omega) := by rw [List.getD_eq_getElem?_getD, List.getElem?_eq_getElem (by omega)]; rfl
    have hks : isSec (D.last.getD x []) := by rw [hgd]; exact hD.last _ (List.getElem_mem _)
    have cs : w.rangeAt lb (x * 64) (D.last.getD x []) := by
      have h1 := Own.range (h := hO.third) (x * 64) 64
      rw [flat_take 64 D.last (fun t ht => (hD.last t ht).1) x (by omega), ← hgd] at h1
      exact h1
    have his : (Tryz.prog.info? 200).map (·.size) = some (D.last.getD x []).length := by rw [hks.1]; exact info_sector
    have c1 := own_c1 hO
    have hlt : lb < w.heap.size := (hO.third.lt (List.mem_cons_self ..) (k := lb) rfl).2
    have hdt : d < w.heap.size := (hO.lt (List.mem_cons_self ..) (k := d) rfl).2
    have HE := Lib.hid hE
    have Hks := Lib.hid hks
    have Hr := Lib.hid hr
    have H0 := Lib.hid h
    have hx0 : (0 : Int) ≤ (x : Int) := by omega
    have hx1 : (x : Int) < (n : Int) := by omega
    generalize D.last.getD x [] = s at *
    have hs1 := Hks.out.2
    clear hE hgd hks hr hn hO hD h
    go_enter Tryz.func117, Tryz.ntmps117
    go_wp2_with (first
      | (go_at_call 164; refine (refused_any W0 _ d D L (x : Int) (H0.out.alloc _)).mono ?_; rintro e w' ⟨rfl, rfl⟩)
      | (refine wpList_load_mid rfl 200 (.tmp 19) rfl lb (x * 64) rfl s _ (World.rangeAt_alloc cs _) Tryz.underlying200 rfl his ?_)
      | (refine wpList_store_new rfl 200 (.tmp 4) (.tmp 20) rfl h0 s w.heap.size rfl rfl rfl ?hz1 his hs1 ?_))
    case hz1 => rw [Hks.out.1]; rfl
    intro w2 hO2 _
    have cr : w2.rangeAt w.heap.size 0 s := by have := hO2.range 0 s.length; rw [List.drop_zero, List.take_length] at this; exact this
    have hbw := hO2.below
    go_wp2_with fail
    refine bodyPost_ret (v := .tuple #[.agg s.toArray, .int .i64 0]) (ret_cell_tmp Tryz.results117 rfl rfl cr Tryz.underlying200 rfl his) rfl ?_
    exact ⟨by rw [HE.out], hbw⟩
  · have hr2 : (refusedM D at_ != 0) = true := by simpa using hr
    have hE : readM D at_ = (zSec, refusedM D at_) := by unfold readM; rw [if_pos hr]
    have HE := Lib.hid hE
    have H0 := Lib.hid h
    have hs1 := zSec_sec.2
    have hb := built_sector
    clear hE hr h
    go_enter Tryz.func117, Tryz.ntmps117
    go_wp2_with (first
      | (go_at_call 164; refine (refused_any W0 _ d D L at_ (H0.out.alloc _)).mono ?_; rintro e w' ⟨rfl, rfl⟩)
      | (refine wpList_build rfl 200 #[] rfl [] rfl _ hb ?_)
      | (refine wpList_store_new rfl 200 (.tmp 4) (.tmp 12) rfl h0 zSec w.heap.size rfl rfl rfl ?hz2 hz hs1 ?_))
    case hz2 => rfl
    intro w2 hO2 _
    have cr : w2.rangeAt w.heap.size 0 zSec := by have := hO2.range 0 zSec.length; rw [List.drop_zero, List.take_length] at this; exact this
    have hbw := hO2.below
    go_wp2_with fail
    refine bodyPost_ret (v := .tuple #[.agg zSec.toArray, .int .i64 (refusedM D at_)]) (ret_cell_tmp Tryz.results117 rfl rfl cr Tryz.underlying200 rfl hz) rfl ?_
    exact ⟨by rw [HE.out], hbw⟩

def newM (n : Nat) : Dk := { kept := List.replicate n zSec, last := List.replicate n zSec, since := [], steps := 0, left := 0, keeps := 0, down := false }
theorem newM_ok (n : Nat) (h0 : 0 < n) (h1 : n ≤ 4096) : (newM n).Ok := by
  have hs : ∀ s ∈ List.replicate n zSec, isSec s := fun s hs => by rw [(List.mem_replicate.1 hs).2]; exact zSec_sec
  exact ⟨by simpa [newM] using h0, by simp [newM], by simpa [newM] using h1, hs, hs, (fun p hp => by cases hp), Nat.zero_le _, Int.le_refl _, Int.le_refl _, (by decide : (0 : Int) ≤ 9223372036854775807), Int.le_refl _, (by decide : (0 : Int) < 18446744073709551616)⟩
/-- A new disk. -/
def NewAt (W0 : Base) (n : Nat) (L : List Rw) (e : Ending) (w : World) : Prop := ∃ d, e = .returned (.pointer (some ⟨d, 0, none⟩)) ∧ DkAt W0 w d (newM n) L
theorem info_s : (Tryz.prog.info? 200).map (fun i => (i.zero, i.size, i.bytes)) = some (some (.agg zSec.toArray), 64, 64) := by kernel_rfl
theorem made_flat (n : Nat) : (madeCells zSec.toArray (n * 64)).toList = (List.replicate n zSec).flatten := by
  apply List.ext_getElem?
  intro q
  have hl : ∀ s ∈ List.replicate n zSec, s.length = 64 := fun s hs => by rw [(List.mem_replicate.1 hs).2]; rfl
  by_cases hq : q < n * 64
  · have h1 : (List.replicate n zSec).flatten[q]? = zSec[q % 64]? := by
      have hqd : q = q / 64 * 64 + q % 64 := by omega
      have := flat_get 64 (by decide) _ hl (q / 64) (q % 64) (by rw [List.length_replicate]; omega) (by omega)
      rw [← hqd, List.getElem_replicate] at this
      exact this
    rw [h1]
    have hm : q % 64 < zSec.length := by show q % 64 < 64; omega
    simp only [madeCells, Array.toList_map, List.getElem?_map, Array.toList_range, List.getElem?_range hq, Option.map_some, List.size_toArray]
    rw [List.getElem?_eq_getElem hm]
    congr 1
    have hm2 : q % zSec.length < zSec.toArray.size := by show q % 64 < 64; omega
    rw [getElem!_pos zSec.toArray (q % zSec.length) hm2]
    rfl
  · rw [List.getElem?_eq_none (by simp [madeCells]; omega), List.getElem?_eq_none]
    rw [flat_length 64 _ hl, List.length_replicate]
    omega
def okLen (v : Value) : Prop := ∃ n : Nat, v = .int .i64 (n : Int) ∧ n ≤ 4096
def lenOf (v : Value) : Nat := (intOf v).toNat
theorem wp_make_sec {dd : Option Tmp} {x y : Operand} {ty : TypeId} {ps : String} {af : Array Edge} {gd : Option (Nat × Bool)} {a : Act} {w : World} {K : Act → World → Prop} {Q : Exit → Act → World → Prop} (h : okLen (a.eval x)) (hy : a.eval y = a.eval x) :
    Oper.wp Tryz.prog ⟨dd, .makeSlice 172 x y, ty, ps, af, gd⟩ a w K Q = K (a.put dd (.slice (some ⟨w.heap.size, 0, none⟩) (lenOf (a.eval x)) (lenOf (a.eval x)))) (w.alloc (.cells (madeCells zSec.toArray (lenOf (a.eval x) * 64)) 200)) := by
  obtain ⟨n, hx, hn⟩ := h
  obtain ⟨i0, hi, hz0, hz1, hz2⟩ := info_parts info_s
  have hr := run_make (P := Tryz.prog) w 172 200 i0 (.agg zSec.toArray) Tryz.underlying172 hi hz0 .i64 .i64 (n : Int) (n : Int) (by omega) (Int.le_refl _) (by rw [hz2]; omega) (by omega)
  rw [hz1] at hr
  unfold Oper.wp execOp
  simp only [hy, hx, Sem.run_bind, hr, Result.andThen_ok, Sem.run_pure]
  rfl
theorem new_rows {W0 : Base} {w : World} {L : List Rw} (n : Nat) (h : Own W0 w L) (hn1 : n ≤ 4096) : Own W0 ((w.alloc (.cells (madeCells zSec.toArray (n * 64)) 200)).alloc (.cells (madeCells zSec.toArray (n * 64)) 200)) (rowK (w.heap.size + 1) n (List.replicate n zSec) :: rowK w.heap.size n (List.replicate n zSec) :: L) := by
  have hm : n ≤ maxLen := by unfold maxLen; omega
  have h1 := h.made 200 64 (madeCells zSec.toArray (n * 64)) n (size_madeCells _ _) hm
  have h2 := h1.made_at 200 64 (madeCells zSec.toArray (n * 64)) n (w.heap.size + 1) (by simp) (size_madeCells _ _) hm
  rw [made_flat] at h2
  exact h2
theorem new_at1 {W0 : Base} {w : World} {L : List Rw} (n : Nat) (h : Own W0 w L) (hn0 : 0 < n) (hn1 : n ≤ 4096) : DkAt W0 (((w.alloc (.cells (madeCells zSec.toArray (n * 64)) 200)).alloc (.cells (madeCells zSec.toArray (n * 64)) 200)).alloc (.cells #[.slice (some ⟨w.heap.size, 0, none⟩) n n, .slice (some ⟨w.heap.size + 1, 0, none⟩) n n, .slice none 0 0, .int .i64 0, .int .i64 0, .int .u64 0, .bool false] 176)).drew (w.heap.size + 1 + 1) (newM n) L := by
  have h3 := (new_rows n h hn1).swap.made_at 176 7 #[.slice (some ⟨w.heap.size, 0, none⟩) n n, .slice (some ⟨w.heap.size + 1, 0, none⟩) n n, .slice none 0 0, .int .i64 0, .int .i64 0, .int .u64 0, .bool false] 1 (w.heap.size + 1 + 1) (by simp) rfl (by unfold maxLen; decide)
  exact ⟨newM_ok n hn0 hn1, w.heap.size, w.heap.size + 1, n, .slice none 0 0, by simp [newM], (h3.nil _ _).unfourth.drew⟩
theorem new_at2 {W0 : Base} {w : World} {L : List Rw} (n : Nat) (h : Own W0 w L) (hn0 : 0 < n) (hn1 : n ≤ 4096) : DkAt W0 (((w.alloc (.cells (madeCells zSec.toArray (n * 64)) 200)).alloc (.cells (madeCells zSec.toArray (n * 64)) 200)).alloc (.cells #[.slice (some ⟨w.heap.size + 1, 0, none⟩) n n, .slice (some ⟨w.heap.size, 0, none⟩) n n, .slice none 0 0, .int .i64 0, .int .i64 0, .int .u64 0, .bool false] 176)).drew (w.heap.size + 1 + 1) (newM n) L := by
  have h3 := (new_rows n h hn1).made_at 176 7 #[.slice (some ⟨w.heap.size + 1, 0, none⟩) n n, .slice (some ⟨w.heap.size, 0, none⟩) n n, .slice none 0 0, .int .i64 0, .int .i64 0, .int .u64 0, .bool false] 1 (w.heap.size + 1 + 1) (by simp) rfl (by unfold maxLen; decide)
  exact ⟨newM_ok n hn0 hn1, w.heap.size + 1, w.heap.size, n, .slice none 0 0, by simp [newM], (h3.nil _ _).unfourth.drew⟩
attribute [local go_sem ↓] wp_make_sec Go.wp_at_zero Go.wp_at_succ

set_option maxHeartbeats 1600000 in
set_option maxRecDepth 100000 in
theorem new_pos (W0 : Base) (w : World) (L : List Rw) (n : Nat) (h : Own W0 w L) (hn0 : 0 < n) (hn1 : n ≤ 4096) :
    Calls Tryz.prog 48 #[.int .i64 (n : Int)] w (NewAt W0 n L) := by
  have q1 : okLen (.int .i64 (n : Int)) := ⟨n, rfl, hn1⟩
  have q2 : lenOf (.int .i64 (n : Int)) = n := rfl
  go_enter Tryz.func48, Tryz.ntmps48
  go_wp2_with fail
  have HA := Lib.hid (new_at1 n h hn0 hn1)
  have HB := Lib.hid (new_at2 n h hn0 hn1)
  go_region
  all_goals go_wp2_with fail
  all_goals go_ret
  · exact ⟨_, rfl, HA.out⟩
  · exact ⟨_, rfl, HB.out⟩
end Go.Proofs.YtnjabanjgckeoaaGreatDoor
end

/- Rows of bytes: a slice value that reads as bytes, a row of bytes that a call made, and calls that make rows alone. -/
section
namespace Go.Proofs.YtnjabanjgckeoaaGreatDoor
open Go.RowKit
set_option linter.unusedVariables false
set_option linter.unusedSimpArgs false

/-- Bytes as a row's cells. -/
abbrev bs (l : List Int) : List Value := l.map (Value.int .u8)
def Byts (l : List Int) : Prop := ∀ z ∈ l, 0 ≤ z ∧ z < 256
theorem Byts.append {a b : List Int} (h : Byts a) (k : Byts b) : Byts (a ++ b) := fun z hz => by
  rcases List.mem_append.1 hz with h1 | h1
  · exact h z h1
  · exact k z h1
theorem Byts.take {a : List Int} (h : Byts a) (n : Nat) : Byts (a.take n) := fun z hz => h z (List.mem_of_mem_take hz)
theorem Byts.drop {a : List Int} (h : Byts a) (n : Nat) : Byts (a.drop n) := fun z hz => h z (List.mem_of_mem_drop hz)
theorem Byts.nil : Byts [] := fun z hz => by cases hz
theorem bs_length (l : List Int) : (bs l).length = l.length := by simp [bs]
theorem bs_one (l : List Int) : ∀ u ∈ bs l, u.oneCell' = true := by
  intro u hu
  obtain ⟨z, _, rfl⟩ := List.mem_map.1 hu
  rfl
theorem bs_append (a b : List Int) : bs (a ++ b) = bs a ++ bs b := by simp [bs]

theorem ownsRow_base {w : World} {b b' : Nat} {e : TypeId} {size : Nat} {v : Value} {n : Nat} {xs : List Value} (h : w.ownsRow b e size v n xs) (hb : b' ≤ b) : w.ownsRow b' e size v n xs := by
  refine ⟨h.1, ?_⟩
  rcases h.2 with h1 | ⟨g, cap, cur, h1, h2, h3⟩
  · exact .inl h1
  · exact .inr ⟨g, cap, cur, h1, Nat.le_trans hb h2, h3⟩
/-- What a call made is owned by the caller, beside what that owns. -/
theorem Own.join {W0 : Base} {w w' : World} {L M : List Rw} (h : Own W0 w L) (k : Own w w' M) : Own W0 w' (M ++ L) := by
  have hl := h.later k.below
  refine ⟨hl.below, fun p hp => ?_, ?_, hl.maps, fun m hm p hp => ?_⟩
  · rcases List.mem_append.1 hp with h1 | h1
    · exact ownsRow_base (k.rows p h1) h.size
    · exact hl.rows p h1
  · refine List.pairwise_append.2 ⟨k.apart, h.apart, fun p hp q hq => ?_⟩
    cases hb : p.v.ownBlock with
    | none => exact .inl rfl
    | some b =>
      right
      intro e
      have h1 : w.heap.size ≤ b := (k.lt hp hb).1
      have h2 := (h.lt hq e.symm).2
      omega
  · rcases List.mem_append.1 hp with h1 | h1
    · intro e
      have h2 := (k.lt h1 e).1
      have h3 := lt_of_heap (h.maps m hm).2
      have h4 : w.heap.size ≤ m.1 := h2
      omega
    · exact hl.offmaps m hm p h1
theorem Own.drewN {W0 : Base} {w : World} {L : List Rw} (h : Own W0 w L) {n : Nat} : Own W0 (w.drewN n) L :=
  ⟨h.below.trans ⟨rfl, rfl, rfl, Nat.le_refl _, fun _ _ => rfl⟩, fun p hp => h.rows p hp, h.apart, h.maps, h.offmaps⟩
/-- A row's value: so many elements, within a capacity. -/
theorem Own.sized {W0 : Base} {w : World} {e size n : Nat} {v : Value} {xs : List Value} {L : List Rw} (h : Own W0 w (⟨e, size, v, n, xs⟩ :: L)) : ∃ a c, v = .slice a n c ∧ n ≤ c ∧ c ≤ maxLen := by
  rcases h.head.2 with ⟨h2, h3⟩ | ⟨g, cp, cur, h2, _, _, h3, h4, _⟩
  · have h2' : v = .slice none 0 0 := h2
    have h3' : n = 0 := h3
    subst h3'
    exact ⟨_, _, h2', Nat.le_refl _, Nat.zero_le _⟩
  · exact ⟨_, _, h2, h3, h4⟩
theorem Own.src' {W0 : Base} {w : World} {e size n : Nat} {v : Value} {xs : List Value} {L : List Rw} (h : Own W0 w (⟨e, size, v, n, xs⟩ :: L)) (h1 : ∀ u ∈ xs, u.oneCell' = true) : Src w v n xs := by
  by_cases hn : n = 0
  · subst hn
    have hl := h.len
    have hx : xs = [] := by
      apply List.eq_nil_of_length_eq_zero
      have : xs.length = 0 * size := hl
      omega
    subst hx
    rcases h.head.2 with ⟨h2, _⟩ | ⟨g, cp, cur, h2, _⟩
    · exact .inl ⟨h2, rfl, rfl⟩
    · exact .inr ⟨_, cp, h2, fun j u hj => by simp at hj, h1⟩
  · obtain ⟨g, cap, rfl, _⟩ := h.form (by omega)
    refine .inr ⟨_, cap, rfl, fun j u hj => ?_, h1⟩
    have hl : xs.length = n * size := h.len
    have hlt : j < xs.length := by
      rcases Nat.lt_or_ge j xs.length with h2 | h2
      · exact h2
      · rw [List.getElem?_eq_none h2] at hj; cases hj
    rw [Addr.add_mid, Nat.zero_add, h.cell j (by omega)]
    exact hj

/-- A slice value that reads as bytes. -/
def By (w : World) (v : Value) (zs : List Int) : Prop :=
  Src w v zs.length (bs zs) ∧ Byts zs ∧ ∃ a c, v = .slice a zs.length c ∧ zs.length ≤ c ∧ c ≤ maxLen
/-- A row of bytes of the call's own. -/
def rowU (v : Value) (zs : List Int) : Rw := ⟨5, 1, v, zs.length, bs zs⟩
theorem Src.later {w w' : World} {v : Value} {m : Nat} {news : List Value} (h : Src w v m news) (hb : Below w.heap.size w w') : Src w' v m news := by
  rcases h with h | ⟨ad, c, hv, hc, h1⟩
  · exact .inl h
  · exact .inr ⟨ad, c, hv, fun j u hj => (hb.cell (p := ad.add j) (World.block_lt_of_cell? w _ (hc j u hj))).trans (hc j u hj), h1⟩
theorem By.later {w w' : World} {v : Value} {zs : List Int} (h : By w v zs) (hb : Below w.heap.size w w') : By w' v zs := ⟨h.1.later hb, h.2.1, h.2.2⟩
theorem By.drew {w : World} {v : Value} {zs : List Int} (h : By w v zs) : By w.drew v zs := h
theorem Own.by {W0 : Base} {w : World} {v : Value} {zs : List Int} {L : List Rw} (h : Own W0 w (rowU v zs :: L)) (hz : Byts zs) : By w v zs := by
  have h' : Own W0 w (⟨5, 1, v, zs.length, bs zs⟩ :: L) := h
  exact ⟨h'.src' (bs_one zs), hz, h'.sized⟩
theorem Own.only {W0 : Base} {w : World} {L : List Rw} (h : Own W0 w L) {r : Rw} (hm : r ∈ L) : Own W0 w [r] := ⟨h.below, fun p hp => by rw [List.mem_singleton.1 hp]; exact h.rows r hm, List.pairwise_singleton _ _, h.maps, fun m hq p hp => by rw [List.mem_singleton.1 hp]; exact h.offmaps m hq r hm⟩
theorem By.cells {w : World} {v : Value} {zs : List Int} (h : By w v zs) (hne : 0 < zs.length) : ∃ g o c, v = .slice (some ⟨g, o, none⟩) zs.length c ∧ zs.length ≤ c ∧ c ≤ maxLen ∧ ∀ j (hj : j < zs.length), w.cell? ⟨g, o + j, none⟩ = some (.int .u8 zs[j]) := by
  obtain ⟨hs, hz, a, c, hv, h1, h2⟩ := h
  rcases hs with ⟨_, h0, _⟩ | ⟨ad, c', hv', hc, _⟩
  · omega
  · rw [hv] at hv'
    injection hv' with e1 e2 e3
    subst e1 e3
    obtain ⟨b, off, spot⟩ := ad
    have hc0 := hc 0 (.int .u8 zs[0]) (by simp [bs, hne])
    have hspot : spot = none := by simpa [Addr.add] using World.cell?_spot hc0
    subst hspot
    refine ⟨b, off, c, hv, h1, h2, fun j hj => ?_⟩
    have := hc j (.int .u8 zs[j]) (by simp [bs, hj])
    rwa [Addr.add_mid] at this
def le4 (n : Int) : List Int := [n % 256, n / 256 % 256, n / 65536 % 256, n / 16777216]
theorem le4_byts (n : Int) (h0 : 0 ≤ n) (h1 : n < 4294967296) : Byts (le4 n) := by
  intro z hz
  simp only [le4, List.mem_cons, List.not_mem_nil, or_false] at hz
  rcases hz with rfl | rfl | rfl | rfl <;> omega
/-- The bytes of a text. -/
def sb (s : ByteArray) : List Int := s.data.toList.map fun x => (x.toNat : Int)
theorem sb_length (s : ByteArray) : (sb s).length = s.size := by simp [sb]
theorem sb_byts (s : ByteArray) : Byts (sb s) := by
  intro z hz
  obtain ⟨x, _, rfl⟩ := List.mem_map.1 hz
  have := x.toNat_lt
  omega
end Go.Proofs.YtnjabanjgckeoaaGreatDoor
end

/- Package rec: what makes parts. -/
section
namespace Go.Proofs.YtnjabanjgckeoaaGreatDoor
open Go.RowKit
set_option linter.unusedVariables false
set_option maxRecDepth 100000
set_option linter.unusedSimpArgs false

theorem info_u : (Tryz.prog.info? 5).map (fun i => (i.zero, i.size, i.bytes)) = some (some (.int .u8 0), 1, 1) := by kernel_rfl

theorem num_any (n : Int) (w : World) (h0 : 0 ≤ n) (h1 : n < 4294967296) :
    Calls Tryz.prog 200 #[.int .i64 n] w fun e w' => ∃ v, e = .returned v ∧ Own w w' [rowU v (le4 n)] := by
  go_enter Tryz.func200, Tryz.ntmps200
  go_wp2_with fail
  go_ret
  exact ⟨_, rfl, (Own.start w).made 5 1 #[.int .u8 (n % 256), .int .u8 (n / 256 % 256), .int .u8 (n / 65536 % 256), .int .u8 (n / 16777216)] 4 rfl (by unfold maxLen; decide)⟩

/-- slices.Grow of nil. -/
theorem grow_zero (w : World) : Calls Tryz.prog 264 #[.slice none 0 0, .int .i64 0] w fun e w' => e = .returned (.slice none 0 0) ∧ w = w' := by
  go_enter Tryz.func264, Tryz.ntmps264
  go_wp2_with fail
  go_ret
  exact ⟨rfl, rfl⟩
theorem grow_pos (n : Nat) (w : World) (h0 : 0 < n) (h1 : n ≤ 140737488355328) : Calls Tryz.prog 264 #[.slice none 0 0, .int .i64 (n : Int)] w fun e w' => ∃ v, e = .returned v ∧ Own w w' [rowU v []] := by
  obtain ⟨i0, hi, hz0, hz1, hz2⟩ := info_parts info_u
  have hrz : ∀ ty, (Builtin.append_ #[278, 3] ty #[.slice none 0 0, .int .i64 (n : Int)]).run Tryz.prog w =
      .ok (.slice (some ⟨w.heap.size, 0, none⟩) n (grownCap w n 0 5)) (w.drew.alloc (.cells (#[] ++ Builtin.zeroCells (Value.int .u8 0).cells n ++ Builtin.zeroCells (Value.int .u8 0).cells (grownCap w n 0 5 - n)) 5)) := fun ty => by
    have h := Lib.run_append_grow_zeros w 278 3 ty 5 i0 (.int .u8 0) .i64 .i64 Tryz.underlying278 Tryz.underlying3 hi hz0 none 0 0 [] (run_firstCells_none w.drew i0.size 0 0 0) n h0 (by omega) (by omega) (by omega) (by rw [hz2]; omega) (growslice_fits (by omega) (by rw [hz2]; omega))
    simpa using h
  have hge : n ≤ grownCap w n 0 5 := grownCap_ge w _ _ _
  have hle : grownCap w n 0 5 ≤ maxLen := grownCap_le_maxLen w n 0 _ (by unfold maxLen; omega)
  obtain ⟨G, hG⟩ : ∃ G, G = grownCap w n 0 5 := ⟨_, rfl⟩
  rw [← hG] at hrz hge hle
  have hO := World.ownsRow_made (base := w.heap.size) (e := 5) (size := 1) w.drew (#[] ++ Builtin.zeroCells (Value.int .u8 0).cells n ++ Builtin.zeroCells (Value.int .u8 0).cells (G - n)) G (Nat.le_refl _) hle (by simp [Builtin.zeroCells, Value.cells]; omega)
  generalize (#[] ++ Builtin.zeroCells (Value.int .u8 0).cells n ++ Builtin.zeroCells (Value.int .u8 0).cells (G - n)) = C at *
  have hO2 : Own w (w.drew.alloc (.cells C 5)) [rowU (.slice (some ⟨w.heap.size, 0, none⟩) 0 G) []] := ⟨(Own.start w).drew.alloc (.cells C 5) |>.below, fun p hp => by rw [List.mem_singleton.1 hp]; exact hO, List.pairwise_singleton _ _, (fun m hm => by cases hm), (fun m hm => by cases hm)⟩
  have HO := Lib.hid hO2
  have hG63 : G ≤ 9223372036854775807 := by unfold maxLen at hle; omega
  clear hG hO hO2 hle
  go_enter Tryz.func264, Tryz.ntmps264
  go_wp2_with (at_builtin; refine Lib.wpList_append_run _ rfl _ _ _ _ rfl _ _ rfl rfl _ _ (hrz _) ?_)
  go_ret
  exact ⟨_, rfl, HO.out⟩

/-- Parts: slice values that read as bytes. -/
def Parts (w : World) (a : Option Addr) (PS : List (Value × List Int)) : Prop :=
  ∀ i (h : i < PS.length), ∃ g o, a = some ⟨g, o, none⟩ ∧ w.cell? ⟨g, o + i, none⟩ = some PS[i].1 ∧ By w PS[i].1 PS[i].2
def allOf (PS : List (Value × List Int)) : List Int := (PS.map (·.2)).flatten
theorem allOf_take_succ (PS : List (Value × List Int)) (i : Nat) (h : i < PS.length) : allOf (PS.take (i + 1)) = allOf (PS.take i) ++ PS[i].2 := by
  unfold allOf
  rw [List.take_succ_eq_append_getElem h]
  simp only [List.map_append, List.map_cons, List.map_nil, List.flatten_append, List.flatten_cons, List.flatten_nil, List.append_nil]
theorem allOf_take_le (PS : List (Value × List Int)) (i : Nat) : (allOf (PS.take i)).length ≤ (allOf PS).length := by
  have h : allOf PS = allOf (PS.take i) ++ allOf (PS.drop i) := by
    unfold allOf
    rw [← List.flatten_append, ← List.map_append, List.take_append_drop]
  rw [h, List.length_append]; omega
theorem Parts.later {w w' : World} {a : Option Addr} {PS : List (Value × List Int)} (h : Parts w a PS) (hb : Below w.heap.size w w') : Parts w' a PS := by
  intro i hi
  obtain ⟨g, o, ha, hc, hy⟩ := h i hi
  exact ⟨g, o, ha, (hb.cell (p := ⟨g, o + i, none⟩) (World.block_lt_of_cell? w _ hc)).trans hc, hy.later hb⟩
set_option maxHeartbeats 1600000 in
theorem concat_any (a : Option Addr) (c : Nat) (PS : List (Value × List Int)) (w : World) (hP : Parts w a PS) (hn : PS.length ≤ maxLen) (hl : (allOf PS).length ≤ 140737488355328) :
    Calls Tryz.prog 241 #[.slice a PS.length c] w fun e w' => ∃ v, e = .returned v ∧ Own w w' [rowU v (allOf PS)] := by
  unfold maxLen at hn
  have HP := Lib.hid hP
  have Hl := Lib.hid hl
  clear hP hl
  go_enter Tryz.func241, Tryz.ntmps241
  go_wp2_with fail
  go_loop [3, 11] (fun t i => ∃ k : Nat, k ≤ PS.length ∧ i = .int .i64 k ∧ t = .int .i64 ((allOf (PS.take k)).length : Int)) (fun _ i => PS.length - (intOf i).toNat)
  case atStart => exact ⟨0, Nat.zero_le _, rfl, rfl⟩
  case round =>
    obtain ⟨k, hk, rfl, rfl⟩ := hrel
    by_cases hlt : k < PS.length
    · obtain ⟨g, o, rfl, hc, _, _, ga, gc, hv, hv1, hv2⟩ := HP.out k hlt
      have HS := Lib.hid (congrArg List.length (allOf_take_succ PS k hlt))
      have hs1 := allOf_take_le PS k
      have hs2 := allOf_take_le PS (k + 1)
      have hs3 : (allOf (PS.take (k + 1))).length = (allOf (PS.take k)).length + (PS[k].2).length := by rw [HS.out, List.length_append]
      have hs4 : (((allOf (PS.take k)).length : Nat) : Int) + (((PS[k].2).length : Nat) : Int) ≤ 140737488355328 := by have := Hl.out; omega
      have HS3 := Lib.hid hs3
      rw [hv] at hc
      clear hs3 hv
      generalize (allOf (PS.take k)).length = m at *
      generalize (PS[k].2).length = m2 at *
      go_wp2_with fail
      exact ⟨⟨k + 1, by omega, by go_num, by rw [HS3.out]; go_num⟩, by simp [intOf]; omega⟩
    · obtain rfl : k = PS.length := by omega
      have hl := Hl.out
      have HT := Lib.hid (show allOf (PS.take PS.length) = allOf PS by rw [List.take_length])
      rw [HT.out]
      obtain ⟨i0, hi, hz0, hz1, hz2⟩ := info_parts info_u
      have hm0 : (0 : Int) ≤ ((allOf PS).length : Int) := by omega
      clear HT
      obtain ⟨n, hn2⟩ : ∃ n, (allOf PS).length = n := ⟨_, rfl⟩
      rw [hn2] at hm0 hl ⊢
      have Hn2 := Lib.hid hn2
      clear hn2
      go_wp2_with fail
      refine (show Calls Tryz.prog 264 #[.slice none 0 0, .int .i64 (n : Int)] w fun e w' => ∃ v, e = .returned v ∧ Own w w' [rowU v []] from ?_).mono ?_
      · rcases Nat.eq_zero_or_pos n with h0 | h0
        · rw [h0]; exact (grow_zero w).mono fun e w' ⟨h1, h2⟩ => ⟨_, h1, h2 ▸ (Own.start w).nil _ _⟩
        · exact grow_pos n w h0 hl
      rintro e w1 ⟨v, rfl, hO1⟩
      have HO1 := Lib.hid hO1
      obtain ⟨va, vc, rfl, _, _⟩ := Own.sized (h := hO1)
      clear hO1
      go_wp2_with fail
      go_loopw [6, 27] (fun t i wr => ∃ k : Nat, k ≤ PS.length ∧ i = .int .i64 k ∧ Own w wr [rowU t (allOf (PS.take k))]) (fun _ i _ => PS.length - (intOf i).toNat)
      case atStart => exact ⟨0, Nat.zero_le _, rfl, HO1.out⟩
      case round =>
        obtain ⟨k, hk, rfl, hO⟩ := hrel
        by_cases hlt : k < PS.length
        · obtain ⟨g, o, rfl, hc, hy⟩ := (HP.out.later hO.below) k hlt
          have hys := hy.1
          have HS := Lib.hid (allOf_take_succ PS k hlt)
          have hs2 := allOf_take_le PS (k + 1)
          have hs3 : (allOf (PS.take (k + 1))).length = (allOf (PS.take k)).length + (PS[k].2).length := by rw [HS.out, List.length_append]
          have hsum : (allOf (PS.take k)).length + (PS[k].2).length ≤ 140737488355328 := by have := Hl.out; omega
          have Hsum := Lib.hid hsum
          have HO := Lib.hid hO
          have Hys := Lib.hid hys
          clear hs2 hs3 hO hy hys hsum
          generalize PS[k].2 = zk at *
          generalize PS[k].1 = vk at *
          go_wp2_with (at_builtin; refine wpList_append_src rfl (.tmp 31) (.tmp 32) 278 rfl _ (allOf (PS.take k)).length (bs (allOf (PS.take k))) vk zk.length (bs zk) rfl rfl HO.out i0 (.int .u8 0) 1 Tryz.underlying278 hi hz0 hz1 hz2 rfl (by decide) Hys.out (by rw [bs_length, Nat.mul_one]) (by have := Hsum.out; unfold maxLen; omega) (by have := Hsum.out; omega) ?_)
          intro v' w' hO'
          rw [← bs_append, ← HS.out] at hO'
          have HO' := Lib.hid (show Own w w' [rowU v' (allOf (PS.take (k + 1)))] by unfold rowU; rw [HS.out, List.length_append, ← HS.out]; exact hO')
          clear hO' Hsum
          go_wp2_with fail
          exact ⟨⟨k + 1, by omega, by go_num, HO'.out⟩, by simp [intOf]; omega⟩
        · obtain rfl : k = PS.length := by omega
          rw [List.take_length] at hO
          have HO := Lib.hid hO
          clear hO
          go_wp2_with fail
          go_ret
          exact ⟨_, rfl, HO.out⟩

theorem cell_of_block {w : World} {g : Nat} {C : Array Value} {e : TypeId} {mk : Nat × Nat} (h : w.heap[g]? = some (.cells C e mk)) (j : Nat) : w.cell? ⟨g, j, none⟩ = C[j]? := by
  unfold World.cell?
  rw [h]
  rfl
theorem parts_list (w : World) (T : TypeId) (PS : List (Value × List Int)) (h : ∀ p ∈ PS, By w p.1 p.2) (H : Nat) (hH : H = w.heap.size) : Parts (w.alloc (.cells (PS.map (·.1)).toArray T)) (some ⟨H, 0, none⟩) PS := by
  subst hH
  intro i hi
  refine ⟨w.heap.size, 0, rfl, ?_, (h _ (List.getElem_mem hi)).later (Below.alloc (Below.refl _ _) (Nat.le_refl _) _)⟩
  rw [Nat.zero_add]
  have h1 : (w.alloc (.cells (PS.map (·.1)).toArray T)).heap[w.heap.size]? = some (.cells (PS.map (·.1)).toArray T) := heap_alloc_new w _
  rw [cell_of_block h1]
  simp [hi]
theorem allOf_two (u v : Value) (a b : List Int) : allOf [(u, a), (v, b)] = a ++ b := by simp [allOf]
theorem pack_any (a : Option Addr) (c : Nat) (PS : List (Value × List Int)) (w : World) (hP : Parts w a PS) (hn : PS.length ≤ maxLen) (hl : (allOf PS).length ≤ 140737488355328) :
    Calls Tryz.prog 199 #[.slice a PS.length c] w fun e w' => ∃ v, e = .returned v ∧ Own w w' [rowU v (allOf PS)] := by
  have HP := Lib.hid hP
  have Hl := Lib.hid hl
  clear hP hl
  go_enter Tryz.func199, Tryz.ntmps199
  go_wp2_with fail
  refine (concat_any a c PS _ HP.out hn Hl.out).mono ?_
  rintro e w1 ⟨v, rfl, hO⟩
  have HO := Lib.hid hO
  clear hO
  go_wp2_with fail
  go_ret
  exact ⟨_, rfl, HO.out⟩

def sizedL (zs : List Int) : List Int := le4 zs.length ++ zs
theorem sizedL_length (zs : List Int) : (sizedL zs).length = zs.length + 4 := by simp [sizedL, le4]
theorem sizedL_byts (zs : List Int) (h : Byts zs) (hl : zs.length < 4294967296) : Byts (sizedL zs) := (le4_byts _ (by omega) (by omega)).append h

set_option maxHeartbeats 800000 in
theorem raw_any (v : Value) (zs : List Int) (w : World) (h : By w v zs) (hl : zs.length < 4294967296) :
    Calls Tryz.prog 202 #[v] w fun e w' => ∃ v', e = .returned v' ∧ Own w w' [rowU v' (sizedL zs)] := by
  have Hy := Lib.hid h
  obtain ⟨_, _, a, c, rfl, _, _⟩ := h
  go_enter Tryz.func202, Tryz.ntmps202
  go_wp2_with fail
  refine (num_any (zs.length : Int) w (by omega) (by omega)).mono ?_
  rintro e w1 ⟨vn, rfl, hO1⟩
  have HO1 := Lib.hid hO1
  obtain ⟨na, nc, rfl, _, _⟩ := Own.sized (h := hO1)
  clear hO1
  go_wp2_with fail
  refine (pack_any (some ⟨w1.heap.size, 0, none⟩) 2 [(.slice na (le4 zs.length).length nc, le4 zs.length), (.slice a zs.length c, zs)] _ (parts_list w1 278 _ ?_ _ rfl) (by simp [maxLen]) (by rw [allOf_two]; simp [le4]; omega)).mono ?_
  · intro p hp
    rcases List.mem_cons.1 hp with rfl | hp
    · exact HO1.out.by (le4_byts _ (by omega) (by omega))
    · obtain rfl := List.mem_singleton.1 hp
      exact Hy.out.later HO1.out.below
  rintro e w2 ⟨v2, rfl, hO2⟩
  rw [allOf_two] at hO2
  have HO := Lib.hid (((HO1.out.alloc _).join hO2).only (List.mem_append_left _ (List.mem_cons_self ..)))
  clear hO2
  go_wp2_with fail
  go_ret
  exact ⟨_, rfl, HO.out⟩

theorem by_of_string (w : World) (s : ByteArray) (G : Nat) (hs : s.size ≤ G) (hG : G ≤ maxLen) (mk : Nat × Nat) :
    By (w.drew.alloc (.cells (bytesRow s G) 5 mk)) (.slice (some ⟨w.heap.size, 0, none⟩) s.size G) (sb s) := by
  have hl := sb_length s
  refine ⟨?_, sb_byts s, some ⟨w.heap.size, 0, none⟩, G, by rw [hl], by rw [hl]; exact hs, hG⟩
  rw [hl]
  refine .inr ⟨_, G, rfl, fun j u hj => ?_, bs_one _⟩
  rw [Addr.add_mid, Nat.zero_add]
  have h1 : (w.drew.alloc (.cells (bytesRow s G) 5 mk)).heap[w.heap.size]? = some (.cells (bytesRow s G) 5 mk) := heap_alloc_new w.drew _
  have hlt : j < s.size := by
    rcases Nat.lt_or_ge j s.size with h2 | h2
    · exact h2
    · rw [List.getElem?_eq_none (by rw [bs_length, hl]; exact h2)] at hj; cases hj
  have hlt' : j < s.data.size := hlt
  rw [cell_of_block h1]
  simp [bs, sb, hlt'] at hj
  obtain ⟨x, hx, rfl⟩ := hj
  obtain ⟨_, rfl⟩ := Array.getElem?_eq_some_iff.1 hx
  simp [bytesRow, Array.getElem?_append, hlt]

set_option maxHeartbeats 800000 in
theorem text_any (s : ByteArray) (w : World) (hl : s.size < 4294967296) :
    Calls Tryz.prog 206 #[.string s] w fun e w' => ∃ v', e = .returned v' ∧ Own w w' [rowU v' (sizedL (sb s))] := by
  go_enter Tryz.func206, Tryz.ntmps206
  go_wp2_with fail
  refine (num_any (s.size : Int) w (by omega) (by omega)).mono ?_
  rintro e w1 ⟨vn, rfl, hO1⟩
  have HO1 := Lib.hid hO1
  obtain ⟨na, nc, rfl, _, _⟩ := Own.sized (h := hO1)
  have hconv := run_bytes_of_string (P := Tryz.prog) w1 9 278 5 s Tryz.underlying9 Tryz.underlying278 Tryz.underlying5
  have hge : s.size ≤ grownCap w1 s.size 0 5 := grownCap_ge w1 _ _ _
  have hle : grownCap w1 s.size 0 5 ≤ maxLen := grownCap_le_maxLen w1 s.size 0 _ (by unfold maxLen; omega)
  generalize grownCap w1 s.size 0 5 = G at *
  have HB := Lib.hid (show By (w1.alloc (.cells (bytesRow s G) 5 ((bytesRow s G).size, (bytesRow s G).size + 1))) _ _ from by_of_string w1 s G hge hle ((bytesRow s G).size, (bytesRow s G).size + 1))
  have HO2 := Lib.hid (HO1.out.alloc (.cells (bytesRow s G) 5 ((bytesRow s G).size, (bytesRow s G).size + 1)))
  generalize (bytesRow s G).size = q at *
  generalize bytesRow s G = C at *
  have hP : Parts ((w1.alloc (.cells C 5 (q, q + 1))).alloc (.cells #[.slice na (le4 s.size).length nc, .slice (some ⟨w1.heap.size, 0, none⟩) s.size G] 278)).drew (some ⟨w1.heap.size + 1, 0, none⟩) [(.slice na (le4 s.size).length nc, le4 s.size), (.slice (some ⟨w1.heap.size, 0, none⟩) s.size G, sb s)] := by
    refine parts_list (w1.alloc (.cells C 5 (q, q + 1))) 278 [(.slice na (le4 s.size).length nc, le4 s.size), (.slice (some ⟨w1.heap.size, 0, none⟩) s.size G, sb s)] ?_ _ (by simp)
    intro p hp
    rcases List.mem_cons.1 hp with rfl | hp
    · exact Own.by HO2.out (le4_byts _ (by omega) (by omega))
    · obtain rfl := List.mem_singleton.1 hp
      exact HB.out
  have HP := Lib.hid hP
  clear hP
  clear hO1 hge hle HO1
  go_wp2_with fail
  refine (pack_any (some ⟨w1.heap.size + 1, 0, none⟩) 2 [(.slice na (le4 s.size).length nc, le4 s.size), (.slice (some ⟨w1.heap.size, 0, none⟩) s.size G, sb s)] _ HP.out (by simp [maxLen]) (by rw [allOf_two]; simp [le4, sb_length]; omega)).mono ?_
  rintro e w2 ⟨v2, rfl, hO3⟩
  rw [allOf_two] at hO3
  have HO := Lib.hid (((HO2.out.alloc _).drew.join hO3).only (List.mem_append_left _ (List.mem_cons_self ..)))
  clear hO3
  go_wp2_with fail
  go_ret
  exact ⟨_, rfl, by unfold sizedL; rw [sb_length]; exact HO.out⟩
end Go.Proofs.YtnjabanjgckeoaaGreatDoor
end

/- Package rec: what takes parts. -/
section
namespace Go.Proofs.YtnjabanjgckeoaaGreatDoor
open Go.RowKit
set_option linter.unusedVariables false
set_option maxRecDepth 100000
set_option linter.unusedSimpArgs false

/-- A reader in its box. -/
def rowR (r : Nat) (v : Value) (bad : Bool) : Rw := ⟨300, 2, .slice (some ⟨r, 0, none⟩) 1 1, 1, [v, .bool bad]⟩
/-- A slice value that is a piece of a row of bytes of L, and reads as zs. -/
def Pc (L : List Rw) (v : Value) (zs : List Int) : Prop :=
  ∃ a c, v = .slice a zs.length c ∧ zs.length ≤ c ∧ c ≤ maxLen ∧ Byts zs ∧
    ((a = none ∧ c = 0) ∨ ∃ g o, a = some ⟨g, o, none⟩ ∧ (zs ≠ [] → ∃ cap ys, rowU (.slice (some ⟨g, 0, none⟩) ys.length cap) ys ∈ L ∧ o + zs.length ≤ ys.length ∧ zs = (ys.drop o).take zs.length))
theorem Pc.mono {L L' : List Rw} {v : Value} {zs : List Int} (h : Pc L v zs) (hs : ∀ r ∈ L, r ∈ L') : Pc L' v zs := by
  obtain ⟨a, c, hv, h1, h2, hz, h3⟩ := h
  refine ⟨a, c, hv, h1, h2, hz, ?_⟩
  rcases h3 with h3 | ⟨g, o, ha, h3⟩
  · exact .inl h3
  · exact .inr ⟨g, o, ha, fun hne => by obtain ⟨cap, ys, hm, h4⟩ := h3 hne; exact ⟨cap, ys, hs _ hm, h4⟩⟩
theorem Pc.cons {L : List Rw} {v : Value} {zs : List Int} (h : Pc L v zs) (r : Rw) : Pc (r :: L) v zs := h.mono fun _ hm => List.mem_cons_of_mem _ hm
theorem Pc.nil (L : List Rw) : Pc L (.slice none 0 0) [] := ⟨none, 0, rfl, Nat.le_refl _, Nat.zero_le _, Byts.nil, .inl ⟨rfl, rfl⟩⟩
theorem Pc.by {W0 : Base} {w : World} {L : List Rw} {v : Value} {zs : List Int} (h : Pc L v zs) (hO : Own W0 w L) : By w v zs := by
  obtain ⟨a, c, hv, h1, h2, hz, h3⟩ := h
  refine ⟨?_, hz, a, c, hv, h1, h2⟩
  rcases h3 with ⟨rfl, rfl⟩ | ⟨g, o, rfl, h3⟩
  · have hn : zs = [] := List.eq_nil_of_length_eq_zero (by omega)
    subst hn
    exact .inl ⟨hv, rfl, rfl⟩
  · refine .inr ⟨⟨g, o, none⟩, c, hv, fun j u hj => ?_, bs_one _⟩
    have hlt : j < zs.length := by
      rcases Nat.lt_or_ge j zs.length with h2 | h2
      · exact h2
      · rw [List.getElem?_eq_none (by rw [bs_length]; exact h2)] at hj; cases hj
    have hne : zs ≠ [] := by intro e; subst e; simp at hlt
    obtain ⟨cap, ys, hm, h5, h6⟩ := h3 hne
    have hr := hO.only hm
    rw [Addr.add_mid, Own.cell (h := hr) (o + j) (by omega), ← hj]
    rw [h6]
    simp [bs, List.getElem?_take, hlt]
/-- A row of the call's own, as a piece. -/
theorem Pc.all {W0 : Base} {w : World} {L : List Rw} {v : Value} {zs : List Int} (h : Own W0 w (rowU v zs :: L)) (hz : Byts zs) : Pc (rowU v zs :: L) v zs := by
  by_cases hn : zs.length = 0
  · have hn' : zs = [] := List.eq_nil_of_length_eq_zero hn
    subst hn'
    rcases (Own.head h).2 with ⟨h2, _⟩ | ⟨g, cp, cur, h2, _, _, h3, h4, _⟩
    · have h2' : v = .slice none 0 0 := h2
      exact ⟨none, 0, h2', Nat.le_refl _, Nat.zero_le _, Byts.nil, .inl ⟨rfl, rfl⟩⟩
    · exact ⟨_, cp, h2, h3, h4, Byts.nil, .inr ⟨g, 0, rfl, fun hne => absurd rfl hne⟩⟩
  · obtain ⟨g, cap, hv, _, _, h1, h2⟩ := Own.form (h := h) (by omega)
    have hv' : v = .slice (some ⟨g, 0, none⟩) zs.length cap := hv
    refine ⟨_, cap, hv', h1, h2, hz, .inr ⟨g, 0, rfl, fun _ => ⟨cap, zs, by rw [← hv']; exact List.mem_cons_self .., by omega, by simp⟩⟩⟩
theorem Pc.form {L : List Rw} {v : Value} {zs : List Int} (h : Pc L v zs) : ∃ a k c, v = .slice a k c := by
  obtain ⟨a, c, hv, _⟩ := h
  exact ⟨_, _, _, hv⟩
theorem Pc.byts {L : List Rw} {v : Value} {zs : List Int} (h : Pc L v zs) : Byts zs := by
  obtain ⟨a, c, hv, h1, h2, hz, h3⟩ := h
  exact hz

set_option maxHeartbeats 800000 in
set_option maxRecDepth 100000 in
theorem clone_any (v : Value) (zs : List Int) (w : World) (h : By w v zs) (hl : zs.length ≤ 140737488355328) :
    Calls Tryz.prog 145 #[v] w fun e w' => ∃ v', e = .returned v' ∧ Own w w' [rowU v' zs] := by
  obtain ⟨i0, hi, hz0, hz1, hz2⟩ := info_parts info_u
  have Hy := Lib.hid h
  obtain ⟨hs, hz, a, c, rfl, _, _⟩ := h
  have hnil := Lib.run_eql_slice_nil (P := Tryz.prog) w 82 5 a zs.length c 0 0 Tryz.underlying82
  cases a with
  | none =>
    have hn : zs.length = 0 := by
      rcases hs with ⟨_, h0, _⟩ | ⟨ad, c', hv', _⟩
      · exact h0
      · injection hv' with e1 e2 e3; cases e1
    have hn' : zs = [] := List.eq_nil_of_length_eq_zero hn
    subst hn'
    have hnil : Sem.run Tryz.prog (binOp BinOp.eql 82 (.slice none 0 c) (.slice none 0 0)) w = .ok (.bool true) w := hnil
    clear hs hn hz
    go_enter Tryz.func145, Tryz.ntmps145
    go_wp2_with fail
    go_ret
    exact ⟨_, rfl, (Own.start w).nil _ _⟩
  | some ad =>
    have hnil : Sem.run Tryz.prog (binOp BinOp.eql 82 (.slice (some ad) zs.length c) (.slice none 0 0)) w = .ok (.bool false) w := hnil
    have HO := Lib.hid ((Own.start w).made 5 1 #[] 0 rfl (Nat.zero_le _))
    have Hs := Lib.hid (hs.later (Below.alloc (Below.refl _ w) (Nat.le_refl _) (.cells #[] 5)))
    clear hs hz
    go_enter Tryz.func145, Tryz.ntmps145
    go_wp2_with (at_builtin; refine wpList_append_src rfl (.tmp 5) (.tmp 6) 82 rfl (.slice (some ⟨w.heap.size, 0, none⟩) 0 0) 0 [] (.slice (some ad) zs.length c) zs.length (bs zs) rfl rfl HO.out i0 (.int .u8 0) 1 Tryz.underlying82 hi hz0 hz1 hz2 rfl (by decide) Hs.out (by rw [bs_length, Nat.mul_one]) (by unfold maxLen; omega) (by omega) ?_)
    intro v' w' hO'
    have HO' := Lib.hid hO'
    clear hO'
    go_wp2_with fail
    go_ret
    exact ⟨_, rfl, HO'.out⟩

theorem zero_reader (w : World) : Sem.run Tryz.prog (zeroValue 300) w = .ok (.agg #[.slice none 0 0, .bool false]) w := by kernel_rfl
set_option maxHeartbeats 800000 in
theorem rread_any (v : Value) (zs : List Int) (w : World) (h : By w v zs) (hl : zs.length ≤ 140737488355328) :
    Calls Tryz.prog 165 #[v] w fun e w' => ∃ r v', e = .returned (.pointer (some ⟨r, 0, none⟩)) ∧ Own w w' [rowR r v' false, rowU v' zs] ∧ Pc [rowU v' zs] v' zs := by
  have hz := h.2.1
  have Hy := Lib.hid h
  obtain ⟨_, _, a, c, rfl, _, _⟩ := h
  have hzr := zero_reader
  go_enter Tryz.func165, Tryz.ntmps165
  go_wp2_with fail
  refine (clone_any _ zs w Hy.out hl).mono ?_
  rintro e w1 ⟨v1, rfl, hO⟩
  have HO := Lib.hid hO
  obtain ⟨a1, c1, rfl, _, _⟩ := Own.sized (h := hO)
  clear hO
  go_wp2_with fail
  go_ret
  exact ⟨_, _, rfl, HO.out.made 300 2 #[.slice a1 zs.length c1, .bool false] 1 rfl (by unfold maxLen; decide), Pc.all HO.out hz⟩

/-- What a reader's box holds. -/
theorem reader_cells {W0 : Base} {w : World} {r : Nat} {v : Value} {bad : Bool} {L : List Rw} (h : Own W0 w (rowR r v bad :: L)) :
    w.cell? ⟨r, 0, none⟩ = some v ∧ w.cell? ⟨r, 1, none⟩ = some (.bool bad) ∧ w.frozen? ⟨r, 0, none⟩ = false ∧ w.frozen? ⟨r, 1, none⟩ = false :=
  ⟨Own.cell (h := h) 0 (by decide), Own.cell (h := h) 1 (by decide), Own.free (h := h) 0, Own.free (h := h) 1⟩
theorem reader_set0 {W0 : Base} {w : World} {r : Nat} {v : Value} {bad : Bool} {L : List Rw} (h : Own W0 w (rowR r v bad :: L)) (u : Value) : Own W0 (w.setCell ⟨r, 0, none⟩ u) (rowR r u bad :: L) := Own.set (h := h) 0 u
theorem Pc.head {L : List Rw} {g o c : Nat} {zs : List Int} (h : Pc L (.slice (some ⟨g, o, none⟩) zs.length c) zs) (n : Nat) (hn : n ≤ zs.length) : Pc L (.slice (some ⟨g, o, none⟩) n c) (zs.take n) := by
  obtain ⟨a, c', hv, h1, h2, hz, h3⟩ := h
  injection hv with e1 e2 e3
  subst e1 e3
  have hl : (zs.take n).length = n := by rw [List.length_take]; omega
  refine ⟨_, c, by rw [hl], by omega, h2, hz.take n, ?_⟩
  rcases h3 with ⟨h3, _⟩ | ⟨g', o', ha, h3⟩
  · cases h3
  · injection ha with ha
    injection ha with e1 e2 e3
    subst e1 e2
    refine .inr ⟨g, o, rfl, fun hne => ?_⟩
    obtain ⟨cap, ys, hm, h4, h5⟩ := h3 (by intro e; subst e; simp at hne)
    refine ⟨cap, ys, hm, by omega, ?_⟩
    rw [hl]
    conv => lhs; rw [h5]
    rw [List.take_take, Nat.min_eq_left hn]
theorem Pc.rest {L : List Rw} {g o c : Nat} {zs : List Int} (h : Pc L (.slice (some ⟨g, o, none⟩) zs.length c) zs) (n k : Nat) (hn : n ≤ zs.length) (hk : k = zs.length - n) : Pc L (.slice (some ⟨g, o + n, none⟩) k (c - n)) (zs.drop n) := by
  subst hk
  obtain ⟨a, c', hv, h1, h2, hz, h3⟩ := h
  injection hv with e1 e2 e3
  subst e1 e3
  have hl : (zs.drop n).length = zs.length - n := List.length_drop
  refine ⟨_, c - n, by rw [hl], by omega, by omega, hz.drop n, ?_⟩
  rcases h3 with ⟨h3, _⟩ | ⟨g', o', ha, h3⟩
  · cases h3
  · injection ha with ha
    injection ha with e1 e2 e3
    subst e1 e2
    refine .inr ⟨g, o + n, rfl, fun hne => ?_⟩
    obtain ⟨cap, ys, hm, h4, h5⟩ := h3 (by intro e; subst e; simp at hne)
    refine ⟨cap, ys, hm, by omega, ?_⟩
    rw [hl]
    conv => lhs; rw [h5]
    rw [List.drop_take, List.drop_drop]
theorem Pc.empty (L : List Rw) (g o c : Nat) (hc : c ≤ maxLen) : Pc L (.slice (some ⟨g, o, none⟩) 0 c) [] := ⟨_, c, rfl, Nat.zero_le _, hc, Byts.nil, .inr ⟨g, o, rfl, fun h => absurd rfl h⟩⟩

set_option maxHeartbeats 1600000 in
theorem take_yes (W0 : Base) (w : World) (r : Nat) (v : Value) (bad : Bool) (L : List Rw) (zs : List Int) (n : Nat) (h : Own W0 w (rowR r v bad :: L)) (hp : Pc L v zs) (hn : n ≤ zs.length) :
    Calls Tryz.prog 249 #[.pointer (some ⟨r, 0, none⟩), .int .i64 (n : Int)] w fun e w' => ∃ v1 v2, e = .returned (.tuple #[v1, .bool true]) ∧ Own W0 w' (rowR r v2 bad :: L) ∧ Pc L v1 (zs.take n) ∧ Pc L v2 (zs.drop n) := by
  have Hp := Lib.hid hp
  obtain ⟨a, c, rfl, hzc, hcm, _, h3⟩ := hp
  unfold maxLen at hcm
  obtain ⟨c0, c1, f0, f1⟩ := reader_cells h
  rcases h3 with ⟨rfl, rfl⟩ | ⟨g, o, rfl, _⟩
  · have hz : zs = [] := List.eq_nil_of_length_eq_zero (by omega)
    subst hz
    obtain rfl : n = 0 := by simpa using hn
    have HN := Lib.hid (reader_set0 h (.slice none 0 0))
    clear h hn
    go_enter Tryz.func249, Tryz.ntmps249
    go_wp2_with fail
    go_ret2
    exact ⟨_, _, rfl, HN.out, Pc.nil L, Pc.nil L⟩
  · by_cases hcn : c = n
    · subst hcn
      have hzn : zs.length = c := by omega
      have hd : zs.drop c = [] := List.drop_of_length_le (by omega)
      have HN := Lib.hid (reader_set0 h (.slice (some ⟨g, o, none⟩) 0 0))
      have Hd := Lib.hid hd
      have Hzn := Lib.hid hzn
      clear h hd hzn
      go_enter Tryz.func249, Tryz.ntmps249
      go_wp2_with fail
      go_ret2
      have hp1 := Hp.out.head c (by omega)
      exact ⟨_, _, rfl, HN.out, hp1, by rw [Hd.out]; exact Pc.empty L g o 0 (Nat.zero_le _)⟩
    · have HN := Lib.hid (reader_set0 h (.slice (some ⟨g, o + n, none⟩) (zs.length - n) (c - n)))
      clear h
      go_enter Tryz.func249, Tryz.ntmps249
      go_wp2_with fail
      go_ret2
      exact ⟨_, _, rfl, HN.out, Hp.out.head n hn, Hp.out.rest n _ hn rfl⟩

/-- The number that four bytes are. -/
def num4 (zs : List Int) : Int := zs.getD 0 0 + 256 * zs.getD 1 0 + 65536 * zs.getD 2 0 + 16777216 * zs.getD 3 0
theorem num4_bounds (zs : List Int) (h : Byts zs) : 0 ≤ num4 zs ∧ num4 zs < 4294967296 := by
  have hb : ∀ i, 0 ≤ zs.getD i 0 ∧ zs.getD i 0 < 256 := by
    intro i
    rw [List.getD_eq_getElem?_getD]
    cases hi : zs[i]? with
    | none => exact ⟨by decide, by decide⟩
    | some z => exact h z (List.mem_of_getElem? hi)
  have h0 := hb 0; have h1 := hb 1; have h2 := hb 2; have h3 := hb 3
  unfold num4
  omega
theorem num4_take (zs : List Int) (h : 4 ≤ zs.length) : num4 (zs.take 4) = num4 zs := by
  unfold num4
  simp [List.getD_eq_getElem?_getD, List.getElem?_take]

theorem i64_or_nat (a b : Nat) (ha : a < 4611686018427387904) (hb : b < 4611686018427387904) : bits .or .i64 (a : Int) (b : Int) = ((a ||| b : Nat) : Int) := by
  have hx : a ||| b < 2 ^ 62 := Nat.or_lt_two_pow (by omega) (by omega)
  have h1 : (BitVec.ofInt 64 (a : Int)).toNat = a := by
    rw [BitVec.ofInt_natCast, BitVec.toNat_ofNat]; exact Nat.mod_eq_of_lt (by omega)
  have h2 : (BitVec.ofInt 64 (b : Int)).toNat = b := by
    rw [BitVec.ofInt_natCast, BitVec.toNat_ofNat]; exact Nat.mod_eq_of_lt (by omega)
  show IntKind.i64.wrap ((BitVec.ofInt 64 (a : Int) ||| BitVec.ofInt 64 (b : Int)).toNat : Int) = _
  rw [BitVec.toNat_or, h1, h2, IntKind.wrap_i64]
  omega
theorem or_join (i : Nat) (m : Nat) (hm : m = 2 ^ i) (x y : Int) (h0 : 0 ≤ x) (h1 : x < (m : Int)) (h2 : 0 ≤ y) (h3 : y < 256) (h4 : (m : Int) ≤ 16777216) : bits .or .i64 x (y * (m : Int)) = x + y * (m : Int) := by
  obtain ⟨X, rfl⟩ := Int.eq_ofNat_of_zero_le h0
  obtain ⟨Y, rfl⟩ := Int.eq_ofNat_of_zero_le h2
  have hY : Y * m ≤ 256 * m := Nat.mul_le_mul_right _ (by omega)
  rw [show ((Y : Int) * (m : Int)) = ((Y * m : Nat) : Int) from by simp, i64_or_nat X (Y * m) (by omega) (by omega), Nat.or_comm, nat_join i (Y * m) X (by rw [hm]; exact Nat.mul_mod_left _ _) (by omega)]
  omega
theorem or_four (z0 z1 z2 z3 : Int) (b0 : 0 ≤ z0 ∧ z0 < 256) (b1 : 0 ≤ z1 ∧ z1 < 256) (b2 : 0 ≤ z2 ∧ z2 < 256) (b3 : 0 ≤ z3 ∧ z3 < 256) :
    bits .or .i64 (bits .or .i64 (bits .or .i64 z0 (z1 * 256)) (z2 * 65536)) (z3 * 16777216) = num4 [z0, z1, z2, z3] := by
  have e1 := or_join 8 256 rfl z0 z1 b0.1 (by omega) b1.1 b1.2 (by decide)
  have e2 := or_join 16 65536 rfl (z0 + z1 * 256) z2 (by omega) (by omega) b2.1 b2.2 (by decide)
  have e3 := or_join 24 16777216 rfl (z0 + z1 * 256 + z2 * 65536) z3 (by omega) (by omega) b3.1 b3.2 (by decide)
  simp only [Int.cast_ofNat_Int] at e1 e2 e3
  rw [e1, e2, e3]
  simp [num4]
  omega

set_option maxHeartbeats 1600000 in
theorem number_yes (W0 : Base) (w : World) (r : Nat) (v : Value) (bad : Bool) (L : List Rw) (zs : List Int) (most : Int) (h : Own W0 w (rowR r v bad :: L)) (hp : Pc L v zs) (hn : 4 ≤ zs.length) (hm : num4 zs ≤ most) :
    Calls Tryz.prog 218 #[.pointer (some ⟨r, 0, none⟩), .int .i64 most] w fun e w' => ∃ v', e = .returned (.tuple #[.int .i64 (num4 zs), .bool true]) ∧ Own W0 w' (rowR r v' bad :: L) ∧ Pc L v' (zs.drop 4) := by
  have hz4 := num4_take zs hn
  have hnb := num4_bounds zs hp.byts
  obtain ⟨n, hn4⟩ : ∃ n, num4 zs = n := ⟨_, rfl⟩
  rw [hn4] at hm hz4 hnb ⊢
  have Hz4 := Lib.hid hz4
  clear hn4 hz4
  have Hp := Lib.hid hp
  have H := Lib.hid h
  clear h hp
  go_enter Tryz.func218, Tryz.ntmps218
  go_wp2_with fail
  refine (take_yes W0 w r v bad L zs 4 H.out Hp.out hn).mono ?_
  rintro e w1 ⟨v1, v2, rfl, hO, hp1, hp2⟩
  have HO := Lib.hid hO
  have Hp2 := Lib.hid hp2
  obtain ⟨g, o, c, rfl, _, _, hc⟩ := (hp1.by hO.tail).cells (by rw [List.length_take]; omega)
  have hl4 : (zs.take 4).length = 4 := by rw [List.length_take]; omega
  have hby := hp1.byts
  generalize zs.take 4 = ys at *
  obtain ⟨z0, z1, z2, z3, rfl⟩ : ∃ z0 z1 z2 z3, ys = [z0, z1, z2, z3] := by
    match ys, hl4 with
    | [a, b, c, d], _ => exact ⟨a, b, c, d, rfl⟩
  have k0 := hc 0 (by simp)
  have k1 := hc 1 (by simp)
  have k2 := hc 2 (by simp)
  have k3 := hc 3 (by simp)
  simp only [List.getElem_cons_zero, List.getElem_cons_succ, Nat.add_zero] at k0 k1 k2 k3
  have b0 := hby z0 (by simp)
  have b1 := hby z1 (by simp)
  have b2 := hby z2 (by simp)
  have b3 := hby z3 (by simp)
  clear hO hp1 hp2 hc hby
  clear hl4
  go_wp2_with fail
  go_quiet (fail)
  rw [or_four z0 z1 z2 z3 b0 b1 b2 b3, Hz4.out]
  clear k0 k1 k2 k3 b0 b1 b2 b3
  go_wp2_with fail
  go_ret2
  exact ⟨_, rfl, HO.out.drewN, Hp2.out⟩
def isSized (zs : List Int) (most : Int) : Prop := 4 ≤ zs.length ∧ num4 zs ≤ most ∧ num4 zs ≤ (zs.length : Int) - 4
def bodyOf (zs : List Int) : List Int := (zs.drop 4).take (num4 zs).toNat
def restOf (zs : List Int) : List Int := (zs.drop 4).drop (num4 zs).toNat

set_option maxHeartbeats 1600000 in
theorem sized_yes (W0 : Base) (w : World) (r : Nat) (v : Value) (bad : Bool) (L : List Rw) (zs : List Int) (most : Int) (h : Own W0 w (rowR r v bad :: L)) (hp : Pc L v zs) (hs : isSized zs most) :
    Calls Tryz.prog 217 #[.pointer (some ⟨r, 0, none⟩), .int .i64 most] w fun e w' => ∃ v1 v2, e = .returned (.tuple #[v1, .bool true]) ∧ Own W0 w' (rowR r v2 bad :: L) ∧ Pc L v1 (bodyOf zs) ∧ Pc L v2 (restOf zs) := by
  have Hp := Lib.hid hp
  have H := Lib.hid h
  obtain ⟨s1, s2, s3⟩ := hs
  have hb := num4_bounds zs hp.byts
  obtain ⟨n, hn⟩ : ∃ n : Nat, num4 zs = n := ⟨(num4 zs).toNat, by omega⟩
  unfold bodyOf restOf
  rw [hn] at s2 s3 hb ⊢
  rw [Int.toNat_natCast]
  have Hn := Lib.hid hn
  clear h hp hn
  go_enter Tryz.func217, Tryz.ntmps217
  go_wp2_with fail
  refine (number_yes W0 w r v bad L zs most H.out Hp.out s1 (by rw [Hn.out]; exact s2)).mono ?_
  rintro e w1 ⟨v1, rfl, hO, hp1⟩
  rw [Hn.out]
  have HO := Lib.hid hO
  have Hp1 := Lib.hid hp1
  clear hO hp1
  go_wp2_with fail
  refine (take_yes W0 w1 r v1 bad L _ n HO.out Hp1.out (by rw [List.length_drop]; omega)).mono ?_
  rintro e w2 ⟨v2, v3, rfl, hO2, hp2, hp3⟩
  have HO2 := Lib.hid hO2
  have Hp2 := Lib.hid hp2
  have Hp3 := Lib.hid hp3
  obtain ⟨a2, k2, c2, rfl⟩ := hp2.form
  clear hO2 hp2 hp3
  go_wp2_with fail
  go_ret2
  exact ⟨_, _, rfl, HO2.out, Hp2.out, Hp3.out⟩
set_option maxHeartbeats 1600000 in
theorem rnum_any (W0 : Base) (w : World) (r : Nat) (v : Value) (bad : Bool) (L : List Rw) (zs : List Int) (most : Int) (h : Own W0 w (rowR r v bad :: L)) (hp : Pc L v zs) (hs : 4 ≤ zs.length ∧ num4 zs ≤ most) :
    Calls Tryz.prog 167 #[.pointer (some ⟨r, 0, none⟩), .int .i64 most] w fun e w' => ∃ v', e = .returned (.int .i64 (num4 zs)) ∧ Own W0 w' (rowR r v' bad :: L) ∧ Pc L v' (zs.drop 4) := by
  have Hc := Lib.hid (number_yes W0 w r v bad L zs most h hp hs.1 hs.2)
  clear h hp hs
  go_enter Tryz.func167, Tryz.ntmps167
  go_wp2_with fail
  refine Hc.out.mono ?_
  rintro e w1 ⟨v1, rfl, hO, hp1⟩
  have HO := Lib.hid hO
  have Hp1 := Lib.hid hp1
  clear hO hp1
  go_wp2_with fail
  go_ret
  exact ⟨_, rfl, HO.out, Hp1.out⟩
theorem By.toStr {w : World} {v : Value} {zs : List Int} (h : By w v zs) : (convert 82 9 v).run Tryz.prog w = .ok (.string (strOfNums zs)) w := by
  by_cases hn : 0 < zs.length
  · obtain ⟨g, o, c, rfl, _, _, hc⟩ := h.cells hn
    refine run_convert_bytes_arg w 82 5 Tryz.underlying82 Tryz.underlying5 g o zs.length c zs rfl (fun i hi => ?_) 9 Tryz.underlying9
    rw [hc i hi, List.getD_eq_getElem?_getD, List.getElem?_eq_getElem hi]
    rfl
  · have hz : zs = [] := List.eq_nil_of_length_eq_zero (by omega)
    subst hz
    rcases h.1 with ⟨rfl, _, _⟩ | ⟨ad, c, rfl, _⟩
    · exact run_convert_bytes_nil w 82 5 Tryz.underlying82 Tryz.underlying5 0 0 9 Tryz.underlying9
    · have := run_convert_bytes_back w 82 9 5 ad c [] Tryz.underlying82 Tryz.underlying5 Tryz.underlying9 (fun j hj => by simp at hj)
      exact this
set_option maxHeartbeats 1600000 in
theorem rtext_yes (W0 : Base) (w : World) (r : Nat) (v : Value) (bad : Bool) (L : List Rw) (zs : List Int) (most : Int) (h : Own W0 w (rowR r v bad :: L)) (hp : Pc L v zs) (hs : isSized zs most) :
    Calls Tryz.prog 166 #[.pointer (some ⟨r, 0, none⟩), .int .i64 most] w fun e w' => ∃ v2, e = .returned (.string (strOfNums (bodyOf zs))) ∧ Own W0 w' (rowR r v2 bad :: L) ∧ Pc L v2 (restOf zs) := by
  have Hc := Lib.hid (sized_yes W0 w r v bad L zs most h hp hs)
  clear h hp hs
  go_enter Tryz.func166, Tryz.ntmps166
  go_wp2_with fail
  refine Hc.out.mono ?_
  rintro e w1 ⟨v1, v2, rfl, hO, hp1, hp2⟩
  have HO := Lib.hid hO
  have Hp2 := Lib.hid hp2
  have hcv := (hp1.by hO.tail).toStr
  obtain ⟨a1, k1, c1, rfl⟩ := hp1.form
  clear hO hp1 hp2
  go_wp2_with fail
  go_ret
  exact ⟨_, rfl, HO.out, Hp2.out⟩

end Go.Proofs.YtnjabanjgckeoaaGreatDoor
end

/- The sum of bytes as a plain function on 32 bits, and what the walks' own spelling of its operations is in it. No condition. -/
section
namespace Go.Proofs.YtnjabanjgckeoaaGreatDoor
set_option linter.unusedVariables false
set_option linter.unusedSimpArgs false
open Go.RowKit

/-- One bit. -/
def nx (s : BitVec 32) : BitVec 32 := (s >>> 1) ^^^ (3988292384#32 &&& -(s &&& 1#32))
def nxs : Nat → BitVec 32 → BitVec 32
  | 0, s => s
  | k + 1, s => nx (nxs k s)
/-- One byte. -/
def nextB (s : BitVec 32) (b : Int) : BitVec 32 := nxs 8 (s ^^^ BitVec.ofInt 32 b)
def rest (s : BitVec 32) (bs : List Int) : BitVec 32 := bs.foldl nextB s
def ones : BitVec 32 := BitVec.allOnes 32
def crc (bs : List Int) : BitVec 32 := ~~~ rest ones bs

theorem toNat_ofInt (b : Int) (h0 : 0 ≤ b) (h : b < 4294967296) : ((BitVec.ofInt 32 b).toNat : Int) = b := by
  rw [BitVec.toNat_ofInt]; omega
theorem xor32 (s t : BitVec 32) : bits .xor .u32 (s.toNat : Int) (t.toNat : Int) = ((s ^^^ t).toNat : Int) := by
  rw [u32_xor_nat _ _ s.isLt t.isLt, BitVec.toNat_xor]
theorem and32 (s t : BitVec 32) : bits .and .u32 (s.toNat : Int) (t.toNat : Int) = ((s &&& t).toNat : Int) := by
  rw [u32_and_nat _ _ s.isLt t.isLt, BitVec.toNat_and]
theorem neg32 (s : BitVec 32) : (-(s.toNat : Int)) % 4294967296 = ((-s).toNat : Int) := by
  rw [BitVec.toNat_neg]
  have := s.isLt
  omega
theorem half32 (s : BitVec 32) : (s.toNat : Int) / (2 : Int) = ((s >>> 1).toNat : Int) := by
  rw [BitVec.toNat_ushiftRight, Nat.shiftRight_eq_div_pow]; exact (Int.natCast_ediv _ _).symm
theorem step32 (s : BitVec 32) : bits .xor .u32 ((s.toNat : Int) / (2 : Int)) (bits .and .u32 3988292384 (-bits .and .u32 (s.toNat : Int) 1 % 4294967296)) = ((nx s).toNat : Int) := by
  have e1 : bits .and .u32 (s.toNat : Int) 1 = ((s &&& 1#32).toNat : Int) := by rw [← and32]; rfl
  rw [e1, neg32, half32]
  have e2 : (3988292384 : Int) = ((3988292384#32 : BitVec 32).toNat : Int) := rfl
  rw [e2, and32, xor32]
  rfl
theorem start32 (s : BitVec 32) (b : Int) (h0 : 0 ≤ b) (h : b < 256) : bits .xor .u32 (s.toNat : Int) b = ((s ^^^ BitVec.ofInt 32 b).toNat : Int) := by
  rw [← xor32, toNat_ofInt b h0 (by omega)]
theorem not32 (s : BitVec 32) : bits .xor .u32 IntKind.u32.max (s.toNat : Int) = ((~~~ s).toNat : Int) := by
  have e : IntKind.u32.max = (((BitVec.allOnes 32).toNat : Nat) : Int) := rfl
  rw [e, xor32, BitVec.allOnes_xor]
theorem u32_congr {a b : BitVec 32} (h : a = b) : Value.int .u32 (a.toNat : Int) = .int .u32 (b.toNat : Int) := by rw [h]
theorem u32_of (s : BitVec 32) : 0 ≤ (s.toNat : Int) ∧ (s.toNat : Int) < 4294967296 := ⟨by omega, by have := s.isLt; omega⟩
end Go.Proofs.YtnjabanjgckeoaaGreatDoor
end

/- The program's own steps of the sum: 'crc.next' and 'crc.Of' turn nothing, and answer the plain function's value. -/
section
namespace Go.Proofs.YtnjabanjgckeoaaGreatDoor
set_option linter.unusedVariables false
set_option linter.unusedSimpArgs false
open Go.RowKit
set_option maxHeartbeats 400000 in
theorem next_any (s : BitVec 32) (b : Int) (w : World) (hb0 : 0 ≤ b) (hb : b < 256) :
    Calls Tryz.prog 242 #[.int .u32 (s.toNat : Int), .int .u8 b] w fun e w' => e = .returned (.int .u32 ((nextB s b).toNat : Int)) ∧ w = w' := by
  go_enter Tryz.func242, Tryz.ntmps242
  go_wp2
  go_loop [0, 9] (fun t i => ∃ k : Nat, k ≤ 8 ∧ i = .int .i64 k ∧ t = .int .u32 ((nxs k (s ^^^ BitVec.ofInt 32 b)).toNat : Int)) (fun _ i => 8 - (intOf i).toNat)
  case atStart => exact ⟨0, by omega, rfl, by rw [start32 s b hb0 hb]; rfl⟩
  case round =>
    obtain ⟨k, hk, rfl, rfl⟩ := hrel
    by_cases hlt : k < 8
    · go_wp2
      go_round
      case rel => exact ⟨k + 1, by omega, by go_num, by rw [step32]; rfl⟩
      case measure => simp [intOf]; omega
    · obtain rfl : k = 8 := by omega
      go_wp2
      go_ret
      exact ⟨rfl, rfl⟩

end Go.Proofs.YtnjabanjgckeoaaGreatDoor
end
