/- The document's Put. -/
import Derived.Test.YthmcdmnjjofehaaDRel
namespace Go.Proofs.Ythmcdmnjjofehaa
open Go.RowKit
set_option linter.unusedVariables false
set_option linter.unusedSimpArgs false

theorem built_w64 (x : Int) (a0 a1 a2 a3 a4 a5 a6 a7 a8 a9 a10 a11 a12 a13 a14 a15 a16 a17 a18 a19 a20 a21 a22 a23 a24 a25 a26 a27 a28 a29 a30 a31 a32 a33 a34 a35 a36 a37 a38 a39 a40 a41 a42 a43 a44 a45 a46 a47 a48 a49 a50 a51 a52 a53 a54 a55 a56 a57 a58 a59 a60 a61 a62 a63 : Value) : Try.prog.built 62 [(0, .int .i64 x), (1, .agg #[a0, a1, a2, a3, a4, a5, a6, a7, a8, a9, a10, a11, a12, a13, a14, a15, a16, a17, a18, a19, a20, a21, a22, a23, a24, a25, a26, a27, a28, a29, a30, a31, a32, a33, a34, a35, a36, a37, a38, a39, a40, a41, a42, a43, a44, a45, a46, a47, a48, a49, a50, a51, a52, a53, a54, a55, a56, a57, a58, a59, a60, a61, a62, a63])] = some #[.int .i64 x, a0, a1, a2, a3, a4, a5, a6, a7, a8, a9, a10, a11, a12, a13, a14, a15, a16, a17, a18, a19, a20, a21, a22, a23, a24, a25, a26, a27, a28, a29, a30, a31, a32, a33, a34, a35, a36, a37, a38, a39, a40, a41, a42, a43, a44, a45, a46, a47, a48, a49, a50, a51, a52, a53, a54, a55, a56, a57, a58, a59, a60, a61, a62, a63] := by kernel_rfl
theorem built_w (x : Int) (s : List Value) (hs : s.length = 64) : Try.prog.built 62 [(0, .int .i64 x), (1, .agg s.toArray)] = some (Value.int .i64 x :: s).toArray := by
  match s, hs with
  | a0 :: a1 :: a2 :: a3 :: a4 :: a5 :: a6 :: a7 :: a8 :: a9 :: a10 :: a11 :: a12 :: a13 :: a14 :: a15 :: a16 :: a17 :: a18 :: a19 :: a20 :: a21 :: a22 :: a23 :: a24 :: a25 :: a26 :: a27 :: a28 :: a29 :: a30 :: a31 :: a32 :: a33 :: a34 :: a35 :: a36 :: a37 :: a38 :: a39 :: a40 :: a41 :: a42 :: a43 :: a44 :: a45 :: a46 :: a47 :: a48 :: a49 :: a50 :: a51 :: a52 :: a53 :: a54 :: a55 :: a56 :: a57 :: a58 :: a59 :: a60 :: a61 :: a62 :: a63 :: [], _ => exact built_w64 x a0 a1 a2 a3 a4 a5 a6 a7 a8 a9 a10 a11 a12 a13 a14 a15 a16 a17 a18 a19 a20 a21 a22 a23 a24 a25 a26 a27 a28 a29 a30 a31 a32 a33 a34 a35 a36 a37 a38 a39 a40 a41 a42 a43 a44 a45 a46 a47 a48 a49 a50 a51 a52 a53 a54 a55 a56 a57 a58 a59 a60 a61 a62 a63

theorem wp_load_64 {dd : Option Tmp} {x : Operand} {ty : TypeId} {ps : String} {af : Array Edge} {gd : Option (Nat × Bool)} {a : Act} {w : World} {K : Act → World → Prop} {Q : Exit → Act → World → Prop} (h : okSec w (a.eval x)) :
    Oper.wp Try.prog ⟨dd, .load 37 x, ty, ps, af, gd⟩ a w K Q = K (a.put dd (secOf w (a.eval x))) w := by
  obtain ⟨b, o, hx, hj⟩ := h
  have hr := run_loadAt_mid (P := Try.prog) w b o _ _ _ (sec_range w b o hj) Try.underlying37 rfl (by rw [List.length_map, List.length_range]; exact info_64)
  unfold Oper.wp execOp
  simp only [hx, Sem.run_bind, hr, Result.andThen_ok, Sem.run_pure]
  rfl
theorem wp_build_w {dd : Option Tmp} {x y : Operand} {ty : TypeId} {ps : String} {af : Array Edge} {gd : Option (Nat × Bool)} {a : Act} {w : World} {K : Act → World → Prop} {Q : Exit → Act → World → Prop} (h : okWr (a.eval x) (a.eval y)) :
    Oper.wp Try.prog ⟨dd, .build 62 #[(0, x), (1, y)], ty, ps, af, gd⟩ a w K Q = K (a.put dd (wrOf (a.eval x) (a.eval y))) w := by
  obtain ⟨n, s, hx, hy, hs⟩ := h
  have hr := run_build (P := Try.prog) w 62 #[(0, .int .i64 n), (1, .agg s.toArray)] _ (built_w n s hs)
  unfold Oper.wp execOp
  simp only [List.map_toArray, List.map_cons, List.map_nil, hx, hy, Sem.run_bind, hr, Result.andThen_ok, Sem.run_pure]
  rfl
theorem wp_slice_w {dd : Option Tmp} {x : Operand} {ty : TypeId} {ps : String} {af : Array Edge} {gd : Option (Nat × Bool)} {a : Act} {w : World} {K : Act → World → Prop} {Q : Exit → Act → World → Prop} (h : okRow (a.eval x)) :
    Oper.wp Try.prog ⟨dd, .buildSlice 27 1 #[(0, x)], ty, ps, af, gd⟩ a w K Q = K (a.put dd (.slice (some ⟨w.heap.size, 0, none⟩) 1 1)) (w.alloc (.cells (a.eval x).cells 62)) := by
  obtain ⟨cs, hx, hs⟩ := h
  obtain ⟨i0, hi, hz0, hz1, hz2⟩ := info_parts info_b
  have hr := run_buildSlice_one (P := Try.prog) w 27 62 65 i0 (.agg zW.toArray) Try.underlying27 hi hz1 hz0 zW_size (by decide) (by decide) cs hs
  unfold Oper.wp execOp
  simp only [List.map_toArray, List.map_cons, List.map_nil, hx, Sem.run_bind, hr, Result.andThen_ok, Sem.run_pure]
  rfl
attribute [local go_sem ↓] wp_load_64 wp_build_w wp_slice_w Go.wp_at_zero Go.wp_at_succ

/-- What Put answers, and where its disk lies. -/
def PutAt (W0 : World) (R : Rf) (at_ : Int) (s : List Value) (L : List Rw) (e : Ending) (w' : World) : Prop :=
  ∃ a' b', e = .returned (.tuple #[.agg (refCells a' b' (rfPut R at_ s).1).toArray, .int .i64 (rfPut R at_ s).2]) ∧ Own W0 w' (rA a' (rfPut R at_ s).1.kept :: rB b' (rfPut R at_ s).1.cache :: L)

set_option maxHeartbeats 1600000 in
set_option maxRecDepth 100000 in
theorem ref_put_refused (W0 w : World) (a b : Value) (R : Rf) (L : List Rw) (at_ : Int) (s : List Value) (hs : isSec s) (h : Own W0 w (rA a R.kept :: rB b R.cache :: L)) (hR : R.Ok) (hr : rfRefused R at_ ≠ 0) :
    Calls Try.prog 10 #[.agg (refCells a b R).toArray, .int .i64 at_, .agg s.toArray] w (PutAt W0 R at_ s L) := by
  have hz := zero_ref
  have hir := info_r
  have hE : rfPut R at_ s = (R, rfRefused R at_) := by unfold rfPut; rw [if_pos hr]
  obtain ⟨ga, ca, rfl, _⟩ := h.form (show 0 < R.kept.length from hR.pos)
  obtain ⟨gb, cb, rfl, _⟩ := cache_form h.swap
  obtain ⟨H, hH⟩ : ∃ H, w.heap.size = H := ⟨_, rfl⟩
  have HS := Lib.hid (((h.box (refCells (.slice (some ⟨ga, 0, none⟩) R.kept.length ca) (.slice gb R.cache.length cb) R) rfl H hH.symm).sec s hs.1 (H + 1) (by simp [hH])).box (refCells (.slice (some ⟨ga, 0, none⟩) R.kept.length ca) (.slice gb R.cache.length cb) R) rfl (H + 1 + 1) (by simp [hH]))
  have HE := Lib.hid hE
  have hrf := hr
  unfold rfRefused at hrf
  clear hE
  cases hd : R.down
  · rw [hd, if_neg (by decide)] at hrf
    have hout : at_ < 0 ∨ (R.kept.length : Int) ≤ at_ := by
      by_cases h1 : at_ < 0 ∨ (R.kept.length : Int) ≤ at_
      · exact h1
      · rw [if_neg h1] at hrf; exact absurd rfl hrf
    have hv : rfRefused R at_ = 2 := by unfold rfRefused; rw [hd, if_neg (by decide), if_pos hout]
    have HV := Lib.hid hv
    have HD := Lib.hid hd
    unfold refCells
    rw [hd]
    clear hrf hr hv h hd
    by_cases h0 : at_ < 0
    · go_enter Try.func10, Try.ntmps10
      go_wp2_with fail
      have cr := HS.out.boxRange rfl
      unfold refCells at cr
      rw [HD.out] at cr
      refine bodyPost_ret (v := .tuple #[.agg #[.slice (some ⟨ga, 0, none⟩) R.kept.length ca, .slice gb R.cache.length cb, .bool false, .int .i64 R.fate, .int .u64 R.keeps, .int .i64 R.steps], .int .i64 2]) (ret_cell_tmp Try.results10 rfl rfl cr Try.underlying30 rfl hir) rfl ?_
      refine ⟨_, _, by rw [HE.out, HV.out]; unfold refCells; rw [HD.out], ?_⟩
      rw [HE.out]
      have := HS.out.tail.tail.tail
      unfold refCells at this
      rw [HD.out] at this
      exact this
    · have hle : (R.kept.length : Int) ≤ at_ := by omega
      go_enter Try.func10, Try.ntmps10
      go_wp2_with fail
      have cr := HS.out.boxRange rfl
      unfold refCells at cr
      rw [HD.out] at cr
      refine bodyPost_ret (v := .tuple #[.agg #[.slice (some ⟨ga, 0, none⟩) R.kept.length ca, .slice gb R.cache.length cb, .bool false, .int .i64 R.fate, .int .u64 R.keeps, .int .i64 R.steps], .int .i64 2]) (ret_cell_tmp Try.results10 rfl rfl cr Try.underlying30 rfl hir) rfl ?_
      refine ⟨_, _, by rw [HE.out, HV.out]; unfold refCells; rw [HD.out], ?_⟩
      rw [HE.out]
      have := HS.out.tail.tail.tail
      unfold refCells at this
      rw [HD.out] at this
      exact this
  · have hv : rfRefused R at_ = 3 := by unfold rfRefused; rw [hd]; rfl
    have HV := Lib.hid hv
    have HD := Lib.hid hd
    unfold refCells
    rw [hd]
    clear hrf hr hv h hd
    go_enter Try.func10, Try.ntmps10
    go_wp2_with fail
    have cr := HS.out.boxRange rfl
    unfold refCells at cr
    rw [HD.out] at cr
    refine bodyPost_ret (v := .tuple #[.agg #[.slice (some ⟨ga, 0, none⟩) R.kept.length ca, .slice gb R.cache.length cb, .bool true, .int .i64 R.fate, .int .u64 R.keeps, .int .i64 R.steps], .int .i64 3]) (ret_cell_tmp Try.results10 rfl rfl cr Try.underlying30 rfl hir) rfl ?_
    refine ⟨_, _, by rw [HE.out, HV.out]; unfold refCells; rw [HD.out], ?_⟩
    rw [HE.out]
    have := HS.out.tail.tail.tail
    unfold refCells at this
    rw [HD.out] at this
    exact this
end Go.Proofs.Ythmcdmnjjofehaa
