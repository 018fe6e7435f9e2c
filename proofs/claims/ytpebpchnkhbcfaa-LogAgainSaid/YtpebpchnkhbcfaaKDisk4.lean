/- Read and New of a disk. -/
import Derived.Test.YtpebpchnkhbcfaaKDisk3
import Derived.Laws.ResultCell
import Derived.Laws.MakeOwn
import Derived.RegionTactic
import Derived.BigRegion
namespace Go.Proofs.Ytpebpchnkhbcfaa
open Go.RowKit
set_option linter.unusedVariables false
set_option linter.unusedSimpArgs false

def readM (D : Dk) (at_ : Int) : List Value × Int := if refusedM D at_ ≠ 0 then (zSec, refusedM D at_) else (D.last.getD at_.toNat [], 0)
theorem built_sector : Try.prog.built 55 [] = some zSec.toArray := by kernel_rfl
theorem zSec_sec : isSec zSec := ⟨by decide, by decide⟩
/-- A result of many cells, beside one of one. -/
theorem ret_cell_tmp {P : Program} {fn : Func} {p u : Tmp} {ty : TypeId} (h : fn.results = #[.cell p ty, .tmp u]) {tmps : Array Value} {w : World} {b : Nat} {cs : List Value} {v : Value} {d : TypeDesc} (hp : tmps.getD p undef = .pointer (some ⟨b, 0, none⟩)) (hu : tmps.getD u undef = v)
    (hr : w.rangeAt b 0 cs) (ht : P.underlying ty = some d) (hd : d.isRow = true) (hi : (P.info? ty).map (·.size) = some cs.length) : (results fn tmps).run P w = .ok (.tuple #[.agg cs.toArray, v]) w := by
  rw [results_cell_tmp h, hp, hu]
  have e : (asAddr (.pointer (some ⟨b, 0, none⟩))).run P w = .ok ⟨b, 0, none⟩ w := rfl
  rw [e]
  simp only [Result.andThen_ok, run_loadVar_mid w b 0 ty cs d hr ht hd hi]

set_option maxHeartbeats 1600000 in
set_option maxRecDepth 100000 in
theorem read_any (W0 : Base) (w : World) (d : Nat) (D : Dk) (L : List Rw) (at_ : Int) (h : DkAt W0 w d D L) :
    Calls Try.prog 21 #[.pointer (some ⟨d, 0, none⟩), .int .i64 at_] w fun e w' => e = .returned (.tuple #[.agg (readM D at_).1.toArray, .int .i64 (readM D at_).2]) ∧ Below w.heap.size w w' := by
  have hzs := zero_sector
  have h0 : Own w w [] := Own.start w
  have hz : (Try.prog.info? 55).map (·.size) = some zSec.length := info_sector
  by_cases hr : refusedM D at_ = 0
  · have hr2 : (refusedM D at_ != 0) = false := by rw [hr]; rfl
    obtain ⟨hD, kb, lb, n, sv, hn, hO⟩ := id h
    have hat : ∃ x : Nat, at_ = (x : Int) ∧ x < n := by
      unfold refusedM at hr
      split at hr
      · cases hr
      · split at hr
        · cases hr
        · exact ⟨at_.toNat, by omega, by omega⟩
    obtain ⟨x, rfl, hx⟩ := hat
    have hE : readM D x = (D.last.getD x [], 0) := by unfold readM; rw [if_neg (by simpa using hr), Int.toNat_natCast]
    have hgd : D.last.getD x [] = D.last[x]'(by omega) := by rw [List.getD_eq_getElem?_getD, List.getElem?_eq_getElem (by omega)]; rfl
    have hks : isSec (D.last.getD x []) := by rw [hgd]; exact hD.last _ (List.getElem_mem _)
    have cs : w.rangeAt lb (x * 64) (D.last.getD x []) := by
      have h1 := Own.range (h := hO.third) (x * 64) 64
      rw [flat_take 64 D.last (fun t ht => (hD.last t ht).1) x (by omega), ← hgd] at h1
      exact h1
    have his : (Try.prog.info? 55).map (·.size) = some (D.last.getD x []).length := by rw [hks.1]; exact info_sector
    have c1 := own_c1 hO
    have hlt : lb < w.heap.size := (hO.third.lt (List.mem_cons_self ..) (k := lb) rfl).2
    have hdt : d < w.heap.size := (hO.lt (List.mem_cons_self ..) (k := d) rfl).2
    have HE := Lib.hid hE
    have Hks := Lib.hid hks
    have Hr := Lib.hid hr
    have H0 := Lib.hid h
    have hx0 : (0 : Int) ≤ (x : Int) := by omega
    have hx1 : (x : Int) < (n : Int) := by omega
    generalize D.last.getD x [] = s at *
    have hs1 := Hks.out.2
    clear hE hgd hks hr hn hO hD h
    go_enter Try.func21, Try.ntmps21
    go_wp2_with (first
      | (go_at_call 32; refine (refused_any W0 _ d D L (x : Int) (H0.out.alloc _)).mono ?_; rintro e w' ⟨rfl, rfl⟩)
      | (refine wpList_load_mid rfl 55 (.tmp 19) rfl lb (x * 64) rfl s _ (World.rangeAt_alloc cs _) Try.underlying55 rfl his ?_)
      | (refine wpList_store_new rfl 55 (.tmp 4) (.tmp 20) rfl h0 s w.heap.size rfl rfl rfl ?hz1 his hs1 ?_))
    case hz1 => rw [Hks.out.1]; rfl
    intro w2 hO2 _
    have cr : w2.rangeAt w.heap.size 0 s := by have := hO2.range 0 s.length; rw [List.drop_zero, List.take_length] at this; exact this
    have hbw := hO2.below
    go_wp2_with fail
    refine bodyPost_ret (v := .tuple #[.agg s.toArray, .int .i64 0]) (ret_cell_tmp Try.results21 rfl rfl cr Try.underlying55 rfl his) rfl ?_
    exact ⟨by rw [HE.out], hbw⟩
  · have hr2 : (refusedM D at_ != 0) = true := by simpa using hr
    have hE : readM D at_ = (zSec, refusedM D at_) := by unfold readM; rw [if_pos hr]
    have HE := Lib.hid hE
    have H0 := Lib.hid h
    have hs1 := zSec_sec.2
    have hb := built_sector
    clear hE hr h
    go_enter Try.func21, Try.ntmps21
    go_wp2_with (first
      | (go_at_call 32; refine (refused_any W0 _ d D L at_ (H0.out.alloc _)).mono ?_; rintro e w' ⟨rfl, rfl⟩)
      | (refine wpList_build rfl 55 #[] rfl [] rfl _ hb ?_)
      | (refine wpList_store_new rfl 55 (.tmp 4) (.tmp 12) rfl h0 zSec w.heap.size rfl rfl rfl ?hz2 hz hs1 ?_))
    case hz2 => rfl
    intro w2 hO2 _
    have cr : w2.rangeAt w.heap.size 0 zSec := by have := hO2.range 0 zSec.length; rw [List.drop_zero, List.take_length] at this; exact this
    have hbw := hO2.below
    go_wp2_with fail
    refine bodyPost_ret (v := .tuple #[.agg zSec.toArray, .int .i64 (refusedM D at_)]) (ret_cell_tmp Try.results21 rfl rfl cr Try.underlying55 rfl hz) rfl ?_
    exact ⟨by rw [HE.out], hbw⟩

def newM (n : Nat) : Dk := { kept := List.replicate n zSec, last := List.replicate n zSec, since := [], steps := 0, left := 0, keeps := 0, down := false }
theorem newM_ok (n : Nat) (h0 : 0 < n) (h1 : n ≤ 4096) : (newM n).Ok := by
  have hs : ∀ s ∈ List.replicate n zSec, isSec s := fun s hs => by rw [(List.mem_replicate.1 hs).2]; exact zSec_sec
  exact ⟨by simpa [newM] using h0, by simp [newM], by simpa [newM] using h1, hs, hs, (fun p hp => by cases hp), Nat.zero_le _, Int.le_refl _, Int.le_refl _, (by decide : (0 : Int) ≤ 9223372036854775807), Int.le_refl _, (by decide : (0 : Int) < 18446744073709551616)⟩
/-- A new disk. -/
def NewAt (W0 : Base) (n : Nat) (L : List Rw) (e : Ending) (w : World) : Prop := ∃ d, e = .returned (.pointer (some ⟨d, 0, none⟩)) ∧ DkAt W0 w d (newM n) L
theorem info_s : (Try.prog.info? 55).map (fun i => (i.zero, i.size, i.bytes)) = some (some (.agg zSec.toArray), 64, 64) := by kernel_rfl
theorem made_flat (n : Nat) : (madeCells zSec.toArray (n * 64)).toList = (List.replicate n zSec).flatten := by
  apply List.ext_getElem?
  intro q
  have hl : ∀ s ∈ List.replicate n zSec, s.length = 64 := fun s hs => by rw [(List.mem_replicate.1 hs).2]; rfl
  by_cases hq : q < n * 64
  · have h1 : (List.replicate n zSec).flatten[q]? = zSec[q % 64]? := by
      have hqd : q = q / 64 * 64 + q % 64 := by omega
      have := flat_get 64 (by decide) _ hl (q / 64) (q % 64) (by rw [List.length_replicate]; omega) (by omega)
      rw [← hqd, List.getElem_replicate] at this
      exact this
    rw [h1]
    have hm : q % 64 < zSec.length := by show q % 64 < 64; omega
    simp only [madeCells, Array.toList_map, List.getElem?_map, Array.toList_range, List.getElem?_range hq, Option.map_some, List.size_toArray]
    rw [List.getElem?_eq_getElem hm]
    congr 1
    have hm2 : q % zSec.length < zSec.toArray.size := by show q % 64 < 64; omega
    rw [getElem!_pos zSec.toArray (q % zSec.length) hm2]
    rfl
  · rw [List.getElem?_eq_none (by simp [madeCells]; omega), List.getElem?_eq_none]
    rw [flat_length 64 _ hl, List.length_replicate]
    omega
def okLen (v : Value) : Prop := ∃ n : Nat, v = .int .i64 (n : Int) ∧ n ≤ 4096
def lenOf (v : Value) : Nat := (intOf v).toNat
theorem wp_make_sec {dd : Option Tmp} {x y : Operand} {ty : TypeId} {ps : String} {af : Array Edge} {gd : Option (Nat × Bool)} {a : Act} {w : World} {K : Act → World → Prop} {Q : Exit → Act → World → Prop} (h : okLen (a.eval x)) (hy : a.eval y = a.eval x) :
    Oper.wp Try.prog ⟨dd, .makeSlice 50 x y, ty, ps, af, gd⟩ a w K Q = K (a.put dd (.slice (some ⟨w.heap.size, 0, none⟩) (lenOf (a.eval x)) (lenOf (a.eval x)))) (w.alloc (.cells (madeCells zSec.toArray (lenOf (a.eval x) * 64)) 55)) := by
  obtain ⟨n, hx, hn⟩ := h
  obtain ⟨i0, hi, hz0, hz1, hz2⟩ := info_parts info_s
  have hr := run_make (P := Try.prog) w 50 55 i0 (.agg zSec.toArray) Try.underlying50 hi hz0 .i64 .i64 (n : Int) (n : Int) (by omega) (Int.le_refl _) (by rw [hz2]; omega) (by omega)
  rw [hz1] at hr
  unfold Oper.wp execOp
  simp only [hy, hx, Sem.run_bind, hr, Result.andThen_ok, Sem.run_pure]
  rfl
theorem new_rows {W0 : Base} {w : World} {L : List Rw} (n : Nat) (h : Own W0 w L) (hn1 : n ≤ 4096) : Own W0 ((w.alloc (.cells (madeCells zSec.toArray (n * 64)) 55)).alloc (.cells (madeCells zSec.toArray (n * 64)) 55)) (rowK (w.heap.size + 1) n (List.replicate n zSec) :: rowK w.heap.size n (List.replicate n zSec) :: L) := by
  have hm : n ≤ maxLen := by unfold maxLen; omega
  have h1 := h.made 55 64 (madeCells zSec.toArray (n * 64)) n (size_madeCells _ _) hm
  have h2 := h1.made_at 55 64 (madeCells zSec.toArray (n * 64)) n (w.heap.size + 1) (by simp) (size_madeCells _ _) hm
  rw [made_flat] at h2
  exact h2
theorem new_at1 {W0 : Base} {w : World} {L : List Rw} (n : Nat) (h : Own W0 w L) (hn0 : 0 < n) (hn1 : n ≤ 4096) : DkAt W0 (((w.alloc (.cells (madeCells zSec.toArray (n * 64)) 55)).alloc (.cells (madeCells zSec.toArray (n * 64)) 55)).alloc (.cells #[.slice (some ⟨w.heap.size, 0, none⟩) n n, .slice (some ⟨w.heap.size + 1, 0, none⟩) n n, .slice none 0 0, .int .i64 0, .int .i64 0, .int .u64 0, .bool false] 53)).drew (w.heap.size + 1 + 1) (newM n) L := by
  have h3 := (new_rows n h hn1).swap.made_at 53 7 #[.slice (some ⟨w.heap.size, 0, none⟩) n n, .slice (some ⟨w.heap.size + 1, 0, none⟩) n n, .slice none 0 0, .int .i64 0, .int .i64 0, .int .u64 0, .bool false] 1 (w.heap.size + 1 + 1) (by simp) rfl (by unfold maxLen; decide)
  exact ⟨newM_ok n hn0 hn1, w.heap.size, w.heap.size + 1, n, .slice none 0 0, by simp [newM], (h3.nil _ _).unfourth.drew⟩
theorem new_at2 {W0 : Base} {w : World} {L : List Rw} (n : Nat) (h : Own W0 w L) (hn0 : 0 < n) (hn1 : n ≤ 4096) : DkAt W0 (((w.alloc (.cells (madeCells zSec.toArray (n * 64)) 55)).alloc (.cells (madeCells zSec.toArray (n * 64)) 55)).alloc (.cells #[.slice (some ⟨w.heap.size + 1, 0, none⟩) n n, .slice (some ⟨w.heap.size, 0, none⟩) n n, .slice none 0 0, .int .i64 0, .int .i64 0, .int .u64 0, .bool false] 53)).drew (w.heap.size + 1 + 1) (newM n) L := by
  have h3 := (new_rows n h hn1).made_at 53 7 #[.slice (some ⟨w.heap.size + 1, 0, none⟩) n n, .slice (some ⟨w.heap.size, 0, none⟩) n n, .slice none 0 0, .int .i64 0, .int .i64 0, .int .u64 0, .bool false] 1 (w.heap.size + 1 + 1) (by simp) rfl (by unfold maxLen; decide)
  exact ⟨newM_ok n hn0 hn1, w.heap.size + 1, w.heap.size, n, .slice none 0 0, by simp [newM], (h3.nil _ _).unfourth.drew⟩
attribute [local go_sem ↓] wp_make_sec Go.wp_at_zero Go.wp_at_succ

set_option maxHeartbeats 1600000 in
set_option maxRecDepth 100000 in
theorem new_pos (W0 : Base) (w : World) (L : List Rw) (n : Nat) (h : Own W0 w L) (hn0 : 0 < n) (hn1 : n ≤ 4096) :
    Calls Try.prog 8 #[.int .i64 (n : Int)] w (NewAt W0 n L) := by
  have q1 : okLen (.int .i64 (n : Int)) := ⟨n, rfl, hn1⟩
  have q2 : lenOf (.int .i64 (n : Int)) = n := rfl
  go_enter Try.func8, Try.ntmps8
  go_wp2_with fail
  have HA := Lib.hid (new_at1 n h hn0 hn1)
  have HB := Lib.hid (new_at2 n h hn0 hn1)
  go_region
  all_goals go_wp2_with fail
  all_goals go_ret
  · exact ⟨_, rfl, HA.out⟩
  · exact ⟨_, rfl, HB.out⟩
theorem new_zero (W0 : Base) (w : World) (L : List Rw) (h : Own W0 w L) :
    Calls Try.prog 8 #[.int .i64 0] w (NewAt W0 1 L) := by
  have q1 : okLen (.int .i64 1) := ⟨1, rfl, by decide⟩
  have q2 : lenOf (.int .i64 1) = 1 := rfl
  go_enter Try.func8, Try.ntmps8
  go_wp2_with fail
  have HA := Lib.hid (new_at1 1 h (by decide) (by decide))
  have HB := Lib.hid (new_at2 1 h (by decide) (by decide))
  go_region
  all_goals go_wp2_with fail
  all_goals go_ret
  · exact ⟨_, rfl, HA.out⟩
  · exact ⟨_, rfl, HB.out⟩
end Go.Proofs.Ytpebpchnkhbcfaa
