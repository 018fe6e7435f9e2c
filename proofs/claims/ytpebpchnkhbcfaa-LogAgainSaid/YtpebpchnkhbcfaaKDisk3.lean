/- Write, Flush, Read and New of a disk. -/
import Derived.Test.YtpebpchnkhbcfaaKDisk2
import Derived.Deep.DrawnRows
namespace Go.Proofs.Ytpebpchnkhbcfaa
open Go.RowKit
set_option linter.unusedVariables false
set_option linter.unusedSimpArgs false

theorem info_w : (Try.prog.info? 87).map (fun i => (i.zero, i.size, i.bytes)) = some (some (.agg zW.toArray), 65, 72) := by kernel_rfl
theorem zW_size : (Value.agg zW.toArray).cells.size = 65 := by kernel_rfl
theorem built_write64 (x : Int) (a0 a1 a2 a3 a4 a5 a6 a7 a8 a9 a10 a11 a12 a13 a14 a15 a16 a17 a18 a19 a20 a21 a22 a23 a24 a25 a26 a27 a28 a29 a30 a31 a32 a33 a34 a35 a36 a37 a38 a39 a40 a41 a42 a43 a44 a45 a46 a47 a48 a49 a50 a51 a52 a53 a54 a55 a56 a57 a58 a59 a60 a61 a62 a63 : Value) : Try.prog.built 87 [(0, .int .i64 x), (1, .agg #[a0, a1, a2, a3, a4, a5, a6, a7, a8, a9, a10, a11, a12, a13, a14, a15, a16, a17, a18, a19, a20, a21, a22, a23, a24, a25, a26, a27, a28, a29, a30, a31, a32, a33, a34, a35, a36, a37, a38, a39, a40, a41, a42, a43, a44, a45, a46, a47, a48, a49, a50, a51, a52, a53, a54, a55, a56, a57, a58, a59, a60, a61, a62, a63])] = some #[.int .i64 x, a0, a1, a2, a3, a4, a5, a6, a7, a8, a9, a10, a11, a12, a13, a14, a15, a16, a17, a18, a19, a20, a21, a22, a23, a24, a25, a26, a27, a28, a29, a30, a31, a32, a33, a34, a35, a36, a37, a38, a39, a40, a41, a42, a43, a44, a45, a46, a47, a48, a49, a50, a51, a52, a53, a54, a55, a56, a57, a58, a59, a60, a61, a62, a63] := by kernel_rfl
theorem built_write (x : Int) (s : List Value) (hs : s.length = 64) : Try.prog.built 87 [(0, .int .i64 x), (1, .agg s.toArray)] = some (Value.int .i64 x :: s).toArray := by
  match s, hs with
  | a0 :: a1 :: a2 :: a3 :: a4 :: a5 :: a6 :: a7 :: a8 :: a9 :: a10 :: a11 :: a12 :: a13 :: a14 :: a15 :: a16 :: a17 :: a18 :: a19 :: a20 :: a21 :: a22 :: a23 :: a24 :: a25 :: a26 :: a27 :: a28 :: a29 :: a30 :: a31 :: a32 :: a33 :: a34 :: a35 :: a36 :: a37 :: a38 :: a39 :: a40 :: a41 :: a42 :: a43 :: a44 :: a45 :: a46 :: a47 :: a48 :: a49 :: a50 :: a51 :: a52 :: a53 :: a54 :: a55 :: a56 :: a57 :: a58 :: a59 :: a60 :: a61 :: a62 :: a63 :: [], _ => exact built_write64 x a0 a1 a2 a3 a4 a5 a6 a7 a8 a9 a10 a11 a12 a13 a14 a15 a16 a17 a18 a19 a20 a21 a22 a23 a24 a25 a26 a27 a28 a29 a30 a31 a32 a33 a34 a35 a36 a37 a38 a39 a40 a41 a42 a43 a44 a45 a46 a47 a48 a49 a50 a51 a52 a53 a54 a55 a56 a57 a58 a59 a60 a61 a62 a63

/-! Three operations on many cells at once, as rules for a region that draws its order. -/
def okSec (w : World) (v : Value) : Prop := ∃ b o, v = .pointer (some ⟨b, o, none⟩) ∧ ∀ j, j < 64 → (w.cell? ⟨b, o + j, none⟩).isSome = true
def secOf (w : World) (v : Value) : Value := match v with
  | .pointer (some ⟨b, o, _⟩) => .agg ((List.range 64).map fun j => (w.cell? ⟨b, o + j, none⟩).getD undef).toArray
  | _ => undef
theorem sec_range (w : World) (b o : Nat) (h : ∀ j, j < 64 → (w.cell? ⟨b, o + j, none⟩).isSome = true) : w.rangeAt b o ((List.range 64).map fun j => (w.cell? ⟨b, o + j, none⟩).getD undef) := by
  intro j v hj
  have hj64 : j < 64 := by
    rcases Nat.lt_or_ge j 64 with h1 | h1
    · exact h1
    · rw [List.getElem?_eq_none (by simpa using h1)] at hj; cases hj
  rw [List.getElem?_map, List.getElem?_range hj64] at hj
  obtain ⟨u, hu⟩ := Option.isSome_iff_exists.1 (h j hj64)
  simp only [Option.map_some, Option.some.injEq] at hj
  rw [hu] at hj ⊢
  rw [← hj]
  rfl
theorem sec_is {w : World} {b o : Nat} {s : List Value} (hr : w.rangeAt b o s) (hs : s.length = 64) : okSec w (.pointer (some ⟨b, o, none⟩)) ∧ secOf w (.pointer (some ⟨b, o, none⟩)) = .agg s.toArray := by
  have h1 : ∀ j, j < 64 → w.cell? ⟨b, o + j, none⟩ = s[j]? := fun j hj => by rw [hr j s[j] (List.getElem?_eq_getElem (by omega)), List.getElem?_eq_getElem (by omega)]
  refine ⟨⟨b, o, rfl, fun j hj => by rw [h1 j hj, List.getElem?_eq_getElem (by omega)]; rfl⟩, ?_⟩
  show Value.agg _ = _
  congr 2
  apply List.ext_getElem (by simp [hs])
  intro j h2 h3
  rw [List.getElem_map, List.getElem_range, h1 j (by simpa using h2), List.getElem?_eq_getElem h3]
  rfl
theorem wp_load_sec {dd : Option Tmp} {x : Operand} {ty : TypeId} {ps : String} {af : Array Edge} {gd : Option (Nat × Bool)} {a : Act} {w : World} {K : Act → World → Prop} {Q : Exit → Act → World → Prop} (h : okSec w (a.eval x)) :
    Oper.wp Try.prog ⟨dd, .load 55 x, ty, ps, af, gd⟩ a w K Q = K (a.put dd (secOf w (a.eval x))) w := by
  obtain ⟨b, o, hx, hj⟩ := h
  have hr := run_loadAt_mid (P := Try.prog) w b o _ _ _ (sec_range w b o hj) Try.underlying55 rfl (by rw [List.length_map, List.length_range]; exact info_sector)
  unfold Oper.wp execOp
  simp only [hx, Sem.run_bind, hr, Result.andThen_ok, Sem.run_pure]
  rfl
def okWr (v u : Value) : Prop := ∃ (x : Int) (s : List Value), v = .int .i64 x ∧ u = .agg s.toArray ∧ s.length = 64
def wrOf (v u : Value) : Value := .agg (v :: u.cells.toList).toArray
theorem wp_build_wr {dd : Option Tmp} {x y : Operand} {ty : TypeId} {ps : String} {af : Array Edge} {gd : Option (Nat × Bool)} {a : Act} {w : World} {K : Act → World → Prop} {Q : Exit → Act → World → Prop} (h : okWr (a.eval x) (a.eval y)) :
    Oper.wp Try.prog ⟨dd, .build 87 #[(0, x), (1, y)], ty, ps, af, gd⟩ a w K Q = K (a.put dd (wrOf (a.eval x) (a.eval y))) w := by
  obtain ⟨n, s, hx, hy, hs⟩ := h
  have hr := run_build (P := Try.prog) w 87 #[(0, .int .i64 n), (1, .agg s.toArray)] _ (built_write n s hs)
  unfold Oper.wp execOp
  simp only [List.map_toArray, List.map_cons, List.map_nil, hx, hy, Sem.run_bind, hr, Result.andThen_ok, Sem.run_pure]
  rfl
def okRow (v : Value) : Prop := ∃ cs : List Value, v = .agg cs.toArray ∧ cs.length = 65
theorem wp_slice_wr {dd : Option Tmp} {x : Operand} {ty : TypeId} {ps : String} {af : Array Edge} {gd : Option (Nat × Bool)} {a : Act} {w : World} {K : Act → World → Prop} {Q : Exit → Act → World → Prop} (h : okRow (a.eval x)) :
    Oper.wp Try.prog ⟨dd, .buildSlice 51 1 #[(0, x)], ty, ps, af, gd⟩ a w K Q = K (a.put dd (.slice (some ⟨w.heap.size, 0, none⟩) 1 1)) (w.alloc (.cells (a.eval x).cells 87)) := by
  obtain ⟨cs, hx, hs⟩ := h
  obtain ⟨i0, hi, hz0, hz1, hz2⟩ := info_parts info_w
  have hr := run_buildSlice_one (P := Try.prog) w 51 87 65 i0 (.agg zW.toArray) Try.underlying51 hi hz1 hz0 zW_size (by decide) (by decide) cs hs
  unfold Oper.wp execOp
  simp only [List.map_toArray, List.map_cons, List.map_nil, hx, Sem.run_bind, hr, Result.andThen_ok, Sem.run_pure]
  rfl
attribute [local go_sem ↓] wp_load_sec wp_build_wr wp_slice_wr Go.wp_at_zero Go.wp_at_succ

theorem put_c2 {W0 : Base} {w : World} {d kb lb n : Nat} {sv : Value} {D : Dk} {L : List Rw} {r1 r2 r3 : Rw} (h : Own W0 w (r3 :: rowD d kb lb sv n D :: r1 :: r2 :: L)) : w.cell? ⟨d, 2, none⟩ = some sv := Own.cell (h := h.swap) 2 (by decide)
theorem put_f2 {W0 : Base} {w : World} {d kb lb n : Nat} {sv : Value} {D : Dk} {L : List Rw} {r1 r2 r3 : Rw} (h : Own W0 w (r3 :: rowD d kb lb sv n D :: r1 :: r2 :: L)) : w.frozen? ⟨d, 2, none⟩ = false := Own.free (h := h.swap) 2
/-- A write more. -/
theorem put_since {W0 : Base} {w : World} {d kb lb n : Nat} {sv : Value} {D : Dk} {L : List Rw} {M : List (List Value)} {v' : Value} {p : Nat × List Value} (h : Own W0 w (rowS v' (D.since ++ [p]) :: rowD d kb lb sv n D :: rowK kb n D.kept :: rowK lb n M :: L)) :
    Own W0 (w.setCell ⟨d, 2, none⟩ v') (rowsOf d kb lb v' n { D with last := M, since := D.since ++ [p] } L) :=
  Own.set (h := h.unfourth) 2 v'

theorem put_at {W0 : Base} {w : World} {d kb lb n x : Nat} {sv v' : Value} {s : List Value} {D : Dk} {L : List Rw} (h : Own W0 w (⟨87, 65, v', D.since.length + 1, (D.since.map wcells).flatten ++ (Value.int .i64 (x : Int) :: s)⟩ :: rowD d kb lb sv n { D with last := D.last.set x s } :: rowK kb n D.kept :: rowK lb n (D.last.set x s) :: L))
    (hok : (putM D x s).Ok) (hn : n = (D.last.set x s).length) : DkAt W0 (w.setCell ⟨d, 2, none⟩ v') d (putM D x s) L := by
  have e : (D.since.map wcells).flatten ++ Value.int .i64 (x : Int) :: s = ((D.since ++ [(x, s)]).map wcells).flatten := by simp [wcells]
  have e2 : D.since.length + 1 = (D.since ++ [(x, s)]).length := by simp
  rw [e, e2] at h
  exact ⟨hok, kb, lb, n, v', hn, put_since (D := D) (M := D.last.set x s) (p := (x, s)) h⟩

set_option maxHeartbeats 3200000 in
set_option maxRecDepth 100000 in
theorem write_any (W0 : Base) (w : World) (d : Nat) (D : Dk) (L : List Rw) (at_ : Int) (s : List Value) (h : DkAt W0 w d D L) (hs : isSec s) (hst : D.steps < 9223372036854775807) (hsi : D.since.length < 1000000) :
    Calls Try.prog 50 #[.pointer (some ⟨d, 0, none⟩), .int .i64 at_, .agg s.toArray] w fun e w' => e = .returned (.int .i64 (writeM D at_ s).2) ∧ DkAt W0 w' d (writeM D at_ s).1 L := by
  have hb := h.alloc (.cells s.toArray 55)
  by_cases hr : refusedM D at_ = 0
  · have hr1 : (refusedM D at_ == 0) = true := by rw [hr]; rfl
    have hr2 : (refusedM D at_ != 0) = false := by rw [hr]; rfl
    obtain ⟨hD, kb, lb, n, sv, hn, hO⟩ := h
    have hO1 : Own W0 (w.alloc (.cells s.toArray 55)) (⟨55, 64, .slice (some ⟨w.heap.size, 0, none⟩) 1 1, 1, s⟩ :: rowsOf d kb lb sv n D L) := by
      have := hO.made 55 64 s.toArray 1 (by simp [hs.1]) (by unfold maxLen; decide)
      simpa using this
    have hat : ∃ x : Nat, at_ = (x : Int) ∧ x < n := by
      unfold refusedM at hr
      split at hr
      · cases hr
      · split at hr
        · cases hr
        · exact ⟨at_.toNat, by omega, by omega⟩
    obtain ⟨x, rfl, hx⟩ := hat
    have hE : writeM D x s = stepM (putM D x s) := by unfold writeM; rw [if_neg (by simpa using hr), Int.toNat_natCast]
    have hok := putM_ok D hD x s (by omega) hs hsi
    obtain ⟨i0, hi, hz0, hz1, hz2⟩ := info_parts info_w
    have his : (Try.prog.info? 55).map (·.size) = some s.length := by rw [hs.1]; exact info_sector
    have hiw : (Try.prog.info? 87).map (·.size) = some 65 := info_write
    have hx0 : (0 : Int) ≤ (x : Int) := by omega
    have hx1 : (x : Int) < (n : Int) := by omega
    have hbw := built_write x s hs.1
    have hm := hD.many
    have HE := Lib.hid hE
    have Hok := Lib.hid hok
    have Hb := Lib.hid hb
    have Hs := Lib.hid hs
    have Hr := Lib.hid hr
    have Hn := Lib.hid hn
    have Hbw := Lib.hid hbw
    have Hsi := Lib.hid hsi
    have HlastN := Lib.hid (show (D.last.set x s).length = n by rw [List.length_set]; exact hn.symm)
    have Hlast := Lib.hid (fun t ht => (hD.last t ht).1 : ∀ t ∈ D.last, t.length = 64)
    clear hE hok hb hr hn hbw hO hs hsi
    go_enter Try.func50, Try.ntmps50
    go_wp2_with (go_at_call 32; refine (refused_any W0 _ d D L (x : Int) Hb.out).mono ?_; rintro e w' ⟨rfl, rfl⟩)
    clear Hb
    generalize hW1 : w.alloc (.cells s.toArray 55) = w1 at *
    generalize w.heap.size = H at *
    clear hW1
    have c1 := own_c1 hO1.tail
    have cb : w1.rangeAt H 0 s := by have := hO1.range 0 64; rw [List.drop_zero, ← Hs.out.1, List.take_length] at this; exact this
    have ck : w1.there lb (x * 64) 64 := Own.there (h := hO1.tail.third) (x * 64) 64 (by show x * 64 + 64 ≤ n * 64; omega)
    have hO2 : Own W0 (w1.drew.setCells lb (x * 64) s) (⟨55, 64, .slice (some ⟨H, 0, none⟩) 1 1, 1, s⟩ :: rowsOf d kb lb sv n { D with last := D.last.set x s } L) := by
      have h1 := (Own.setCells (h := (hO1.drew).fourth) s (x * 64)).unfourth
      rw [flat_splice 64 (by decide) D.last Hlast.out x (by rw [← Hn.out]; exact hx) s Hs.out.1] at h1
      exact h1
    go_still_tail 7, (by kernel_rfl)
    refine wpStill_load_mid rfl 55 (.tmp 5) rfl H 0 rfl s _ cb Try.underlying55 rfl his ?_
    repeat still_step
    refine wpStill_nil ?_
    change wpList _ _ _ _ _ w1.drew
    refine wpList_store_mid rfl 55 (.tmp 20) (.tmp 19) rfl lb (x * 64) s.toArray rfl rfl ?_ ?_ (all_oneCell_toArray Hs.out.2) ?_
    · simpa [Hs.out.1] using ck
    · simpa using his
    generalize hW2 : (w1.drew.setCells lb (x * 64) s.toArray.toList) = w2
    have hO2' : Own W0 w2 (⟨55, 64, .slice (some ⟨H, 0, none⟩) 1 1, 1, s⟩ :: rowsOf d kb lb sv n { D with last := D.last.set x s } L) := by rw [← hW2]; exact hO2
    clear hW2 hO2 c1 cb ck hO1
    have c2 := own_c2 hO2'.tail
    have cb : w2.rangeAt H 0 s := by have := hO2'.range 0 64; rw [List.drop_zero, ← Hs.out.1, List.take_length] at this; exact this
    go_wp2_with fail
    have hs64 := Hs.out.1
    have hs1 := Hs.out.2
    have hu39 := Try.underlying55
    have hdlt : d < w2.heap.size := (hO2'.tail.lt (List.mem_cons_self ..) (k := d) rfl).2
    have hsrc : ∀ (W : World), Src (W.alloc (.cells (Value.int .i64 (x : Int) :: s).toArray 87)) (.slice (some ⟨W.heap.size, 0, none⟩) 1 1) 1 (Value.int .i64 (x : Int) :: s) := fun W => by
      refine .inr ⟨_, _, rfl, fun j u hj => ?_, fun u hu => ?_⟩
      · rw [Addr.add_mid, Nat.zero_add, World.cell?_alloc_new]
        simpa using hj
      · rcases List.mem_cons.1 hu with rfl | hu
        · rfl
        · exact hs1 u hu
    have hnl : (Value.int .i64 (x : Int) :: s).length = 1 * 65 := by simp [hs64]
    have h63 : D.since.length + 1 ≤ maxLen := by unfold maxLen; omega
    have hby : (D.since.length + 1) * 72 ≤ 140737488355328 := by omega
    have Hnl := Lib.hid hnl
    have H63 := Lib.hid h63
    have Hby := Lib.hid hby
    clear hnl h63 hby
    have q1 : okSec w2.drew (.pointer (some ⟨H, 0, none⟩)) := (sec_is (w := w2.drew) cb hs64).1
    have q2 : ∀ o : Obj, okSec (w2.alloc o).drew (.pointer (some ⟨H, 0, none⟩)) := fun o => (sec_is (w := (w2.alloc o).drew) (World.rangeAt_alloc cb o) hs64).1
    have q3 : secOf w2.drew (.pointer (some ⟨H, 0, none⟩)) = .agg s.toArray := (sec_is (w := w2.drew) cb hs64).2
    have q4 : ∀ o : Obj, secOf (w2.alloc o).drew (.pointer (some ⟨H, 0, none⟩)) = .agg s.toArray := fun o => (sec_is (w := (w2.alloc o).drew) (World.rangeAt_alloc cb o) hs64).2
    have q5 : okWr (.int .i64 (x : Int)) (.agg s.toArray) := ⟨_, s, rfl, rfl, hs64⟩
    have q6 : wrOf (.int .i64 (x : Int)) (.agg s.toArray) = .agg (Value.int .i64 (x : Int) :: s).toArray := rfl
    have q7 : okRow (.agg (Value.int .i64 (x : Int) :: s).toArray) := ⟨_, rfl, by simp [hs64]⟩
    have q8 : (Value.agg (Value.int .i64 (x : Int) :: s).toArray).cells = (Value.int .i64 (x : Int) :: s).toArray := rfl
    go_region_law (first
      | ((refine step_append_src (by rfl) (.tmp 25) (.tmp 29) 51 (by rfl) sv D.since.length (D.since.map wcells).flatten (.slice (some ⟨w2.heap.size, 0, none⟩) 1 1) 1 (Value.int .i64 (x : Int) :: s) (by rfl) (by rfl) (hO2'.tail.alloc _).drew.fourth i0 (.agg zW.toArray) 72 Try.underlying51 hi hz0 hz1 hz2 zW_size (by decide) (hsrc w2) Hnl.out H63.out Hby.out ?_; intro v3 w3 hO3; obtain ⟨g3, cp3, rfl, _, _⟩ := hO3.form (by omega); have c2' := put_c2 hO3; have f2' := put_f2 hO3)))
    all_goals
      have hA := put_at hO3 Hok.out HlastN.out.symm
      have HA := Lib.hid hA
      clear hO2' c2 cb hA hO3 q1 q2 q3 q4 q5 q6 q7 q8 hsrc c2' f2' hdlt
      have hst' : (putM D x s).steps < 9223372036854775807 := hst
      go_wp2_with fail
      refine (step_any W0 _ d (putM D x s) L HA.out hst').mono ?_
      rintro e w4 ⟨rfl, hA4⟩
      have HA4 := Lib.hid hA4
      clear hA4
      go_wp2_with fail
      go_ret
      exact ⟨by rw [HE.out]; rfl, by rw [HE.out]; exact HA4.out⟩
  · have hr2 : (refusedM D at_ != 0) = true := by simpa using hr
    have hE : writeM D at_ s = (D, refusedM D at_) := by unfold writeM; rw [if_pos hr]
    have HE := Lib.hid hE
    have Hb := Lib.hid hb
    clear hE hr hb
    go_enter Try.func50, Try.ntmps50
    go_wp2_with (go_at_call 32; refine (refused_any W0 _ d D L at_ Hb.out).mono ?_; rintro e w' ⟨rfl, rfl⟩)
    go_ret
    exact ⟨by rw [HE.out]; rfl, by rw [HE.out]; exact Hb.out⟩

theorem flush_any (W0 : Base) (w : World) (d : Nat) (D : Dk) (L : List Rw) (h : DkAt W0 w d D L) (hst : D.steps < 9223372036854775807) :
    Calls Try.prog 51 #[.pointer (some ⟨d, 0, none⟩)] w fun e w' => e = .returned (.int .i64 (flushM D).2) ∧ DkAt W0 w' d (flushM D).1 L := by
  have h' := h
  obtain ⟨hD, kb, lb, n, sv, hn, hO⟩ := h
  have c6 := own_c6 hO
  clear hn hO
  have H0 := Lib.hid h'
  cases hb : D.down
  · rw [hb] at c6
    by_cases h2 : (stepM D).2 = 0
    · have h2' : ((stepM D).2 != 0) = false := by rw [h2]; rfl
      have hE : flushM D = (settleM (stepM D).1 18446744073709551615, 0) := by unfold flushM; rw [hb]; simp [h2]
      have HE := Lib.hid hE
      clear hE h2 hb h'
      go_enter Try.func51, Try.ntmps51
      go_wp2_with fail
      refine (step_any W0 _ d D L H0.out hst).mono ?_
      rintro e w4 ⟨rfl, hA4⟩
      have HA4 := Lib.hid hA4
      clear hA4
      go_wp2_with fail
      obtain ⟨hD4, kb, lb, n, sv, hn4, hO4⟩ := HA4.out
      refine (settle_any W0 w4 d kb lb n sv _ L 18446744073709551615 hO4 hD4 hn4 (by decide) (by decide)).mono ?_
      rintro e w5 ⟨rfl, hO5⟩
      have HA5 := Lib.hid (show DkAt W0 w5 d (settleM (stepM D).1 18446744073709551615) L from ⟨settleM_ok _ hD4 _, kb, lb, n, _, by rw [hn4]; exact (lastTo_length _ _ _).symm, hO5⟩)
      clear hO5 hO4 hn4 hD4
      go_wp2_with fail
      go_ret
      exact ⟨by rw [HE.out]; rfl, by rw [HE.out]; exact HA5.out⟩
    · have h2' : ((stepM D).2 != 0) = true := by simpa using h2
      have hE : flushM D = stepM D := by unfold flushM; rw [hb]; simp [h2]
      have HE := Lib.hid hE
      clear hE h2 hb h'
      go_enter Try.func51, Try.ntmps51
      go_wp2_with fail
      refine (step_any W0 _ d D L H0.out hst).mono ?_
      rintro e w4 ⟨rfl, hA4⟩
      have HA4 := Lib.hid hA4
      clear hA4
      go_wp2_with fail
      go_ret
      exact ⟨by rw [HE.out]; rfl, by rw [HE.out]; exact HA4.out⟩
  · rw [hb] at c6
    have hE : flushM D = (D, 3) := by unfold flushM; rw [hb]; rfl
    have HE := Lib.hid hE
    clear hE hb h'
    go_enter Try.func51, Try.ntmps51
    go_wp2_with fail
    go_ret
    exact ⟨by rw [HE.out]; rfl, by rw [HE.out]; exact H0.out⟩
end Go.Proofs.Ytpebpchnkhbcfaa
