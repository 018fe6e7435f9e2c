/- TxnLong: the walk. -/
import Derived.Test.YtjhaihckbmkiaaaDoorTx8
import Derived.Deep.RegionHeld3
import Derived.Deep.RegionWith
import Derived.Deep.DeepCutAuto
namespace Go.Proofs.YtjhaihckbmkiaaaDoor
open Go.RowKit
set_option linter.unusedVariables false
set_option linter.unusedSimpArgs false
set_option maxRecDepth 100000

def mvSum (l : List MvD) : Nat := (l.map fun m => 8 + m.path.size).sum
def nmSum (l : List ByteArray) : Nat := (l.map fun s => 4 + s.size).sum
theorem mvSum_flat (l : List MvD) : (l.map packM).flatten.length = mvSum l := by
  induction l with
  | nil => rfl
  | cons x l ih => unfold mvSum at ih ⊢; simp only [List.map_cons, List.flatten_cons, List.length_append, List.sum_cons, packM_len, ih]; omega
theorem nmSum_flat (l : List ByteArray) : (l.map textB).flatten.length = nmSum l := by
  induction l with
  | nil => rfl
  | cons x l ih => unfold nmSum at ih ⊢; simp only [List.map_cons, List.flatten_cons, List.length_append, List.sum_cons, textB_len, ih]; omega
theorem nmSum_app (a b : List ByteArray) : nmSum (a ++ b) = nmSum a + nmSum b := by unfold nmSum; rw [List.map_append, List.sum_append]
theorem mvSum_succ (l : List MvD) (k : Nat) (h : k < l.length) : mvSum (l.take (k + 1)) = mvSum (l.take k) + (8 + l[k].path.size) := by
  unfold mvSum; rw [List.take_succ_eq_append_getElem h, List.map_append, List.sum_append]; simp
theorem nmSum_succ (l : List ByteArray) (k : Nat) (h : k < l.length) : nmSum (l.take (k + 1)) = nmSum (l.take k) + (4 + l[k].size) := by
  unfold nmSum; rw [List.take_succ_eq_append_getElem h, List.map_append, List.sum_append]; simp
theorem mvSum_le (l : List MvD) (h : ∀ m ∈ l, m.path.size ≤ 2000000) : mvSum l ≤ l.length * 2000008 := by
  induction l with
  | nil => simp [mvSum]
  | cons x l ih =>
    have h1 := ih fun y hy => h y (List.mem_cons_of_mem _ hy)
    have h2 := h x (List.mem_cons_self ..)
    unfold mvSum at h1 ⊢
    simp only [List.map_cons, List.sum_cons, List.length_cons, Nat.add_mul]
    omega
theorem nmSum_le (l : List ByteArray) (h : ∀ m ∈ l, m.size ≤ 2000000) : nmSum l ≤ l.length * 2000004 := by
  induction l with
  | nil => simp [nmSum]
  | cons x l ih =>
    have h1 := ih fun y hy => h y (List.mem_cons_of_mem _ hy)
    have h2 := h x (List.mem_cons_self ..)
    unfold nmSum at h1 ⊢
    simp only [List.map_cons, List.sum_cons, List.length_cons, Nat.add_mul]
    omega
theorem mvSum_take (l : List MvD) (k : Nat) : mvSum (l.take k) ≤ mvSum l := by
  have : mvSum l = mvSum (l.take k) + mvSum (l.drop k) := by
    unfold mvSum; rw [← List.sum_append, ← List.map_append, List.take_append_drop]
  omega
theorem nmSum_take (l : List ByteArray) (k : Nat) : nmSum (l.take k) ≤ nmSum l := by
  have : nmSum l = nmSum (l.take k) + nmSum (l.drop k) := by
    unfold nmSum; rw [← List.sum_append, ← List.map_append, List.take_append_drop]
  omega
theorem packT_sum (D : TxD) : (packT D).length = 20 + mvSum D.moves + nmSum D.come + nmSum D.gone := by
  rw [packT_len, mvSum_flat, nmSum_flat, nmSum_flat]
theorem src_strs {w : World} {a : Option Addr} {c : Nat} (xs : List ByteArray) (h : SlcA w a 1 (xs.map fun x => [Value.string x])) (hc : a = none → c = 0) : Src w (.slice a xs.length c) xs.length (xs.map fun x => [Value.string x]).flatten := by
  cases a with
  | none =>
    have h0 := slc_none h
    subst h0
    rw [hc rfl]
    exact .inl ⟨rfl, rfl, rfl⟩
  | some ad => exact slc_src (fun x => [Value.string x]) (fun _ => rfl) oneS_one (by decide) h
theorem strs_flat (xs : List ByteArray) : (xs.map fun x => [Value.string x]).flatten.length = xs.length * 1 := flatE_len (fun x => [Value.string x]) 1 (fun _ => rfl) xs
abbrev rowSt (v : Value) (xs : List ByteArray) : Rw := rowE 9 1 (fun s => [Value.string s]) v xs
set_option maxHeartbeats 16000000 in
theorem tlong_law (D : TxD) (P : TxP) (x y : Int) (w : World) (hD : TxAt w D P) (hm : Mx w) (hc1 : P.ac = none → P.cc = 0) (hc2 : P.ag = none → P.cg = 0) (h1 : ∀ m ∈ D.moves, m.path.size ≤ 2000000) (h2 : ∀ s ∈ D.come, s.size ≤ 2000000) (h3 : ∀ s ∈ D.gone, s.size ≤ 2000000) :
    Calls Tryd.prog 4 #[.agg #[.int .i64 D.phase, .int .i64 D.done, .slice P.am D.moves.length P.cm, .slice P.ac D.come.length P.cc, .slice P.ag D.gone.length P.cg], .int .i64 x, .int .i64 y] w fun e w' => e = .returned (.bool true) ∧ Below w.heap.size w w' := by
  have HX := Lib.hid (show Own w _ [rowT5 w.heap.size (txCells D P)] from (Own.start w).box5 (.int .i64 D.phase) (.int .i64 D.done) (.slice P.am D.moves.length P.cm) (.slice P.ac D.come.length P.cc) (.slice P.ag D.gone.length P.cg) 27)
  have hal := talive_any _ (hm.later HX.out.below)
  have HD := Lib.hid hD
  have H1 := Lib.hid h1
  have H2 := Lib.hid h2
  have H3 := Lib.hid h3
  clear hD hm h1 h2 h3
  have hbad : ∀ (_ : 60 < D.moves.length ∨ 60 < D.come.length ∨ 60 < D.gone.length), Calls Tryd.prog 4 #[.agg #[.int .i64 D.phase, .int .i64 D.done, .slice P.am D.moves.length P.cm, .slice P.ac D.come.length P.cc, .slice P.ag D.gone.length P.cg], .int .i64 x, .int .i64 y] w fun e w' => e = .returned (.bool true) ∧ Below w.heap.size w w' := by
    intro hc
    have i1 : (60 : Int) < (D.moves.length : Int) ∨ (¬ (60 : Int) < (D.moves.length : Int) ∧ (60 : Int) < (D.come.length : Int)) ∨ (¬ (60 : Int) < (D.moves.length : Int) ∧ ¬ (60 : Int) < (D.come.length : Int) ∧ (60 : Int) < (D.gone.length : Int)) := by omega
    clear hc
    rcases i1 with i0 | ⟨i0, i1⟩ | ⟨i0, i1, i2⟩
    all_goals (
      go_enter Tryd.func4, Tryd.ntmps4
      go_wp2_with fail
      refine hal.mono ?_
      rintro e w2 ⟨rfl, hb2⟩
      have HX2 := Lib.hid (HX.out.later hb2)
      obtain ⟨⟨c0, c1, c2, c3, c4⟩, _⟩ := t5_cells HX2.out (H := w.heap.size) (List.mem_cons_self ..)
      clear hal hb2 HX
      go_wp2_with fail
      go_ret
      exact ⟨rfl, HX2.out.below⟩)
  by_cases n0 : D.moves.length ≤ 60
  case neg => exact hbad (.inl (by omega))
  by_cases n1 : D.come.length ≤ 60
  case neg => exact hbad (.inr (.inl (by omega)))
  by_cases n2 : D.gone.length ≤ 60
  case neg => exact hbad (.inr (.inr (by omega)))
  clear hbad
  have i0 : ¬ (60 : Int) < (D.moves.length : Int) := by omega
  have i1 : ¬ (60 : Int) < (D.come.length : Int) := by omega
  have i2 : ¬ (60 : Int) < (D.gone.length : Int) := by omega
  have hS1 := mvSum_le D.moves H1.out
  have hS2 := nmSum_le D.come H2.out
  have hS3 := nmSum_le D.gone H3.out
  have HS1 := Lib.hid (show mvSum D.moves ≤ 120000480 by omega)
  have HS2 := Lib.hid (show nmSum D.come ≤ 120000240 by omega)
  have HS3 := Lib.hid (show nmSum D.gone ≤ 120000240 by omega)
  clear hS1 hS2 hS3
  go_enter Tryd.func4, Tryd.ntmps4
  go_wp2_with fail
  refine hal.mono ?_
  rintro e w2 ⟨rfl, hb2⟩
  have HX2 := Lib.hid (HX.out.later hb2)
  obtain ⟨⟨c0, c1, c2, c3, c4⟩, _⟩ := t5_cells HX2.out (H := w.heap.size) (List.mem_cons_self ..)
  clear hal hb2 HX
  have HX3 := Lib.hid (HX2.out.box5 (.int .i64 D.phase) (.int .i64 D.done) (.slice P.am D.moves.length P.cm) (.slice P.ac D.come.length P.cc) (.slice P.ag D.gone.length P.cg) 27)
  go_upto_region 6 with fail
  obtain ⟨H7, hH7⟩ : ∃ H7, w2.heap.size = H7 := ⟨_, rfl⟩
  rw [hH7] at HX3 ⊢
  generalize w2.alloc (.cells #[.int .i64 D.phase, .int .i64 D.done, .slice P.am D.moves.length P.cm, .slice P.ac D.come.length P.cc, .slice P.ag D.gone.length P.cg] 27) = W3 at *
  clear c0 c1 c2 c3 c4 hH7
  have HX3 := Lib.hid (show Own w W3 [rowT5 H7 (txCells D P), rowT5 w.heap.size (txCells D P)] from HX3.out)
  obtain ⟨⟨c0, c1, c2, c3, c4⟩, ⟨f0, f1, f2, f3, f4⟩, _⟩ := t5_cells HX3.out (H := H7) (a := .int .i64 D.phase) (b := .int .i64 D.done) (c := .slice P.am D.moves.length P.cm) (d := .slice P.ac D.come.length P.cc) (e := .slice P.ag D.gone.length P.cg) (List.mem_cons_self ..)
  clear i0 i1 i2
  go_upto_region 8 with fail
  obtain ⟨A, hA⟩ : ∃ A : Int, bits BinOp.and IntKind.i64 x 3 = A := ⟨_, rfl⟩
  obtain ⟨B, hB⟩ : ∃ B : Int, bits BinOp.and IntKind.i64 y 31 = B := ⟨_, rfl⟩
  rw [hA, hB]
  clear hA hB
  have h4 := Own.set (h := Own.set (h := (show Own w W3 (⟨27, 5, .slice (some ⟨H7, 0, none⟩) 1 1, 1, txCells D P⟩ :: [rowT5 w.heap.size (txCells D P)]) from HX3.out)) 0 (.int .i64 A)) 1 (.int .i64 B)
  have HX4 := Lib.hid (show Own w _ [rowT5 H7 [.int .i64 A, .int .i64 B, .slice P.am D.moves.length P.cm, .slice P.ac D.come.length P.cc, .slice P.ag D.gone.length P.cg], rowT5 w.heap.size (txCells D P)] from h4)
  generalize (W3.setCell ⟨H7, 0, none⟩ (Value.int .i64 A)).setCell ⟨H7, 1, none⟩ (Value.int .i64 B) = W4 at *
  clear c0 c1 c2 c3 c4 f0 f1 f2 f3 f4 h4
  obtain ⟨bu, hbu⟩ : ∃ q, rowT5 H7 [Value.int .i64 A, .int .i64 B, .slice P.am D.moves.length P.cm, .slice P.ac D.come.length P.cc, .slice P.ag D.gone.length P.cg] = q := ⟨_, rfl⟩
  have HX4 := Lib.hid (show Own w W4 [bu, rowT5 w.heap.size (txCells D P)] by rw [← hbu]; exact HX4.out)
  have Hbu := Lib.hid hbu
  clear hbu
  obtain ⟨⟨c0, c1, c2, c3, c4⟩, _⟩ := t5_cells HX4.out (H := w.heap.size) (a := .int .i64 D.phase) (b := .int .i64 D.done) (c := .slice P.am D.moves.length P.cm) (d := .slice P.ac D.come.length P.cc) (e := .slice P.ag D.gone.length P.cg) (by simp [rowT5])
  go_wp2_with fail
  have Hst := Lib.hid (show ∃ k : Nat, (Value.int .i64 20) = .int .i64 ((20 + mvSum (D.moves.take k) : Nat) : Int) ∧ (Value.int .i64 0) = .int .i64 k ∧ k ≤ D.moves.length ∧ Own w W4 [bu, rowT5 w.heap.size (txCells D P)] from ⟨0, rfl, rfl, Nat.zero_le _, HX4.out⟩)
  clear c0 c1 c2 c3 c4 HX4
  go_loopw [8, 41] (fun n i wr => ∃ k : Nat, n = .int .i64 ((20 + mvSum (D.moves.take k) : Nat) : Int) ∧ i = .int .i64 k ∧ k ≤ D.moves.length ∧ Own w wr [bu, rowT5 w.heap.size (txCells D P)]) (fun _ i _ => D.moves.length - (intOf i).toNat)
  case atStart => exact Hst.out
  case round =>
    obtain ⟨k, rfl, rfl, hk, hO⟩ := hrel
    clear Hst
    by_cases hlt : k < D.moves.length
    · obtain ⟨g, o, ham, hr⟩ := (HD.out.later hO.below).moves k (by rw [List.length_map]; exact hlt)
      rw [List.getElem_map] at hr
      have r0 := hr 0 _ rfl
      have r1 := hr 1 _ rfl
      rw [Nat.add_zero] at r0
      have HSu := Lib.hid (mvSum_succ D.moves k hlt)
      have hle := mvSum_take D.moves (k + 1)
      rw [HSu.out] at hle
      have hle2 := HS1.out
      have HX := Lib.hid (hO.box2 (.int .i64 D.moves[k].kind) (.string D.moves[k].path) 36)
      rw [ham]
      clear hr ham hO
      have hN : ((20 + mvSum (D.moves.take k) : Nat) : Int) + (8 + (D.moves[k].path.size : Int)) ≤ 1000000000 := by omega
      generalize D.moves[k] = q at *
      have HN2 := Lib.hid (show 20 + mvSum (D.moves.take (k + 1)) = 20 + mvSum (D.moves.take k) + (8 + q.path.size) by rw [HSu.out]; omega)
      clear hle HSu
      generalize 20 + mvSum (D.moves.take k) = N at *
      obtain ⟨κ, p⟩ := q
      dsimp only [MvD.cells] at *
      obtain ⟨q0, q1⟩ := boxM_cells (H := wr.heap.size) (k := κ) (p := p) HX.out (List.mem_cons_self ..)
      have HT := Lib.hid (HX.out.tail)
      clear HX hle2
      go_wp2_with fail
      go_roundw
      case rel => exact ⟨k + 1, by rw [HN2.out]; go_num, by go_num, hlt, HT.out⟩
      case measure => simp [intOf]; omega
    · obtain rfl : k = D.moves.length := by omega
      rw [List.take_length]
      have s0 := t5_five hO (H := w.heap.size) (a := .int .i64 D.phase) (b := .int .i64 D.done) (c := .slice P.am D.moves.length P.cm) (d := .slice P.ac D.come.length P.cc) (e := .slice P.ag D.gone.length P.cg) (by simp [rowT5])
      have HE := Lib.hid (show Own w (wr.alloc (.cells #[] 9)) (⟨9, 1, .slice (some ⟨wr.heap.size, 0, none⟩) 0 0, 0, []⟩ :: [bu, rowT5 w.heap.size (txCells D P)]) from hO.made 9 1 #[] 0 rfl (by unfold maxLen; decide))
      have HEd := Lib.hid (show Own w (wr.drew.alloc (.cells #[] 9)) (⟨9, 1, .slice (some ⟨wr.heap.size, 0, none⟩) 0 0, 0, []⟩ :: [bu, rowT5 w.heap.size (txCells D P)]) from hO.drew.made 9 1 #[] 0 rfl (by unfold maxLen; decide))
      have HSC := Lib.hid (fun w9 (hb : Below w.heap.size w w9) => src_strs D.come (HD.out.come.later hb) hc1)
      have HSG := Lib.hid (fun w9 (hb : Below w.heap.size w w9) => src_strs D.gone (HD.out.gone.later hb) hc2)
      have HF5 := Lib.hid (fun w9 L9 (h : Own w w9 L9) (hm : rowT5 w.heap.size (txCells D P) ∈ L9) => t5_five h (H := w.heap.size) (a := .int .i64 D.phase) (b := .int .i64 D.done) (c := .slice P.am D.moves.length P.cm) (d := .slice P.ac D.come.length P.cc) (e := .slice P.ag D.gone.length P.cg) hm)
      obtain ⟨inf, hi0, hi1, hi2, hi3⟩ := info3 info_textE
      have Hi0 := Lib.hid hi0
      have Hi1 := Lib.hid hi1
      have Hi2 := Lib.hid hi2
      have Hi3 := Lib.hid hi3
      have Hn1 := Lib.hid n1
      have Hn2 := Lib.hid n2
      clear hO hi0 hi1 hi2 hi3 hc1 hc2 hlt
      obtain ⟨q0, q1, q2, q3, q4⟩ := id s0
      have sx := HF5.out _ _ HE.out (by simp)
      have sxd := HF5.out _ _ HEd.out (by simp)
      obtain ⟨TT, hTT⟩ : ∃ TT, D.come ++ D.gone = TT := ⟨_, rfl⟩
      have HTT := Lib.hid hTT
      clear hTT
      go_upto_region 13 with fail
      go_region_held3 (fun w' : World => w'.cell? ⟨w.heap.size, 0, none⟩ = some (.int .i64 D.phase) ∧ w'.cell? ⟨w.heap.size, 1, none⟩ = some (.int .i64 D.done) ∧ w'.cell? ⟨w.heap.size, 2, none⟩ = some (.slice P.am D.moves.length P.cm) ∧ w'.cell? ⟨w.heap.size, 3, none⟩ = some (.slice P.ac D.come.length P.cc) ∧ w'.cell? ⟨w.heap.size, 4, none⟩ = some (.slice P.ag D.gone.length P.cg)) (first | exact s0 | exact sx | exact sxd | exact sz | exact sy | go_keep) (first
        | (have _gate := HR1.out; clear _gate; refine step_append_src (by rfl) (.tmp 55) (.tmp 57) 25 (by rfl) v1 (0 + D.come.length) ([] ++ (D.come.map fun x => [Value.string x]).flatten) _ D.gone.length (D.gone.map fun x => [Value.string x]).flatten (by rfl) (by rfl) (by first | exact HR1.out | exact HR1.out.drew) inf (.string ⟨#[]⟩) 16 Tryd.underlying25 Hi0.out Hi1.out Hi2.out Hi3.out rfl (by decide) (HSG.out _ (by first | exact HR1.out.below | exact HR1.out.drew.below)) (strs_flat _) (by have := Hn1.out; have := Hn2.out; unfold maxLen; omega) (by have := Hn1.out; have := Hn2.out; omega) ?_; intro v2 w7 hO7; have HR2 := Lib.hid (show Own w w7 (rowSt v2 TT :: [bu, rowT5 w.heap.size (txCells D P)]) from (by have e : rowSt v2 TT = ⟨9, 1, v2, 0 + D.come.length + D.gone.length, ([] ++ (D.come.map fun x => [Value.string x]).flatten) ++ (D.gone.map fun x => [Value.string x]).flatten⟩ := (by rw [← HTT.out]; unfold rowSt rowE; simp); rw [e]; exact hO7)); have sy := HF5.out _ _ hO7 (by simp); obtain ⟨a7, c7, hv7, _, _⟩ := Own.sized (h := (show Own w w7 (⟨9, 1, v2, TT.length, (TT.map fun x => [Value.string x]).flatten⟩ :: [bu, rowT5 w.heap.size (txCells D P)]) from HR2.out)); subst hv7; clear hO7)
        | (refine step_append_src (by rfl) (.tmp 52) (.tmp 54) 25 (by rfl) (.slice (some ⟨wr.heap.size, 0, none⟩) 0 0) 0 [] _ D.come.length (D.come.map fun x => [Value.string x]).flatten (by rfl) (by rfl) (by first | exact HE.out | exact HE.out.drew | exact HEd.out | exact HEd.out.drew) inf (.string ⟨#[]⟩) 16 Tryd.underlying25 Hi0.out Hi1.out Hi2.out Hi3.out rfl (by decide) (HSC.out _ (by first | exact HE.out.below | exact HE.out.drew.below | exact HEd.out.below)) (strs_flat _) (by have := Hn1.out; unfold maxLen; omega) (by have := Hn1.out; omega) ?_; intro v1 w6 hO6; have HR1 := Lib.hid hO6; have sz := HF5.out _ _ hO6 (by simp); clear hO6))
      have hlT : TT.length ≤ 120 := by rw [← HTT.out, List.length_append]; have := Hn1.out; have := Hn2.out; omega
      have HSx := Lib.hid (show nmSum TT ≤ 240000480 by rw [← HTT.out, nmSum_app]; have := HS2.out; have := HS3.out; omega)
      have HSum := Lib.hid (show (packT D).length = 20 + mvSum D.moves + nmSum TT by rw [← HTT.out, packT_sum, nmSum_app]; omega)
      clear s0 q0 q1 q2 q3 q4 sx sxd HE HEd HSC HSG sy sz HR1
      go_wp2_with fail
      have Hst := Lib.hid (show ∃ k : Nat, (Value.int .i64 ((20 + mvSum D.moves : Nat) : Int)) = .int .i64 ((20 + mvSum D.moves + nmSum (TT.take k) : Nat) : Int) ∧ (Value.int .i64 0) = .int .i64 k ∧ k ≤ TT.length ∧ Own w w7 [rowSt (.slice a7 TT.length c7) TT, bu, rowT5 w.heap.size (txCells D P)] from ⟨0, rfl, rfl, Nat.zero_le _, HR2.out⟩)
      clear HR2
      go_loopw [8, 60] (fun n i wr => ∃ k : Nat, n = .int .i64 ((20 + mvSum D.moves + nmSum (TT.take k) : Nat) : Int) ∧ i = .int .i64 k ∧ k ≤ TT.length ∧ Own w wr [rowSt (.slice a7 TT.length c7) TT, bu, rowT5 w.heap.size (txCells D P)]) (fun _ i _ => TT.length - (intOf i).toNat)
      case atStart => exact Hst.out
      case round =>
        obtain ⟨k, rfl, rfl, hk, hO⟩ := hrel
        clear Hst
        by_cases hlt : k < TT.length
        · obtain ⟨ax, cx, ex, _, hS⟩ := rowE_slc hO (List.mem_cons_self ..) (fun x => rfl)
          injection ex with ex1 ex2 ex3
          subst ex1 ex3
          obtain ⟨g, o, ham, hr⟩ := hS k (by rw [List.length_map]; exact hlt)
          rw [List.getElem_map, Nat.mul_one] at hr
          have r0 := hr 0 _ rfl
          rw [Nat.add_zero] at r0
          have HSu := Lib.hid (nmSum_succ TT k hlt)
          have hle := nmSum_take TT (k + 1)
          rw [HSu.out] at hle
          have hle2 := HSx.out
          have hle3 := HS1.out
          have HO := Lib.hid hO
          subst ham
          clear hr hO hS ex2
          have hN : ((20 + mvSum D.moves + nmSum (TT.take k) : Nat) : Int) + (4 + (TT[k].size : Int)) ≤ 1000000000 := by omega
          generalize TT[k] = q at *
          have HN2 := Lib.hid (show 20 + mvSum D.moves + nmSum (TT.take (k + 1)) = 20 + mvSum D.moves + nmSum (TT.take k) + (4 + q.size) by rw [HSu.out]; omega)
          clear hle HSu hle2 hle3
          generalize 20 + mvSum D.moves + nmSum (TT.take k) = N at *
          go_wp2_with fail
          go_roundw
          case rel => exact ⟨k + 1, by rw [HN2.out]; go_num, by go_num, hlt, HO.out⟩
          case measure => simp [intOf]; omega
        · obtain rfl : k = TT.length := by omega
          rw [List.take_length]
          have hfit : TxFits D := ⟨by omega, H1.out, by have := Hn1.out; omega, H2.out, by have := Hn2.out; omega, H3.out⟩
          have hpl : (packT D).length ≤ 1000000000 := by rw [HSum.out]; have := HSx.out; have := HS1.out; omega
          have hpl2 : (packT ⟨A, B, D.moves, D.come, D.gone⟩).length = (packT D).length := by rw [packT_sum, packT_sum]
          have HO := Lib.hid hO
          have hpk := txpack_any D P wr (HD.out.later hO.below) hfit hpl
          have HPU := Lib.hid (fun w9 (hb : Below w.heap.size w w9) => txpack_any ⟨A, B, D.moves, D.come, D.gone⟩ P w9 ((HD.out.later hb : TxAt w9 D P) |> fun h => ⟨h.moves, h.come, h.gone⟩) ⟨hfit.moves, hfit.move, hfit.come, hfit.comes, hfit.gone, hfit.gones⟩ (by rw [hpl2]; exact hpl))
          simp only [hpl2] at HPU
          have Hpl2 := Lib.hid hpl2
          obtain ⟨⟨c0, c1, c2, c3, c4⟩, _⟩ := t5_cells hO (H := w.heap.size) (a := .int .i64 D.phase) (b := .int .i64 D.done) (c := .slice P.am D.moves.length P.cm) (d := .slice P.ac D.come.length P.cc) (e := .slice P.ag D.gone.length P.cg) (by simp [rowT5])
          rw [← HSum.out]
          have hltT : ¬ ((TT.length : Int) < (TT.length : Int)) := Int.lt_irrefl _
          clear hO hfit hpl hpl2 HSum
          go_wp2_with fail
          refine hpk.mono ?_
          rintro e w8 ⟨v8, rfl, hO8⟩
          obtain ⟨a8, c8, rfl, _, _⟩ := Own.sized (h := (show Own _ w8 (⟨5, 1, v8, (packT D).length, bs (packT D)⟩ :: []) from hO8))
          have HO8 := Lib.hid (HO.out.later hO8.below)
          have hU := HPU.out w8 HO8.out.below
          obtain ⟨⟨d0, d1, d2, d3, d4⟩, _⟩ := t5_cells HO8.out (H := H7) (a := .int .i64 A) (b := .int .i64 B) (c := .slice P.am D.moves.length P.cm) (d := .slice P.ac D.come.length P.cc) (e := .slice P.ag D.gone.length P.cg) (by rw [Hbu.out]; simp)
          clear hpk hO8 c0 c1 c2 c3 c4
          go_wp2_with fail
          refine hU.mono ?_
          rintro e w9 ⟨v9, rfl, hO9⟩
          have hl9 := Hpl2.out
          obtain ⟨a9, c9, rfl, _, _⟩ := Own.sized (h := (show Own _ w9 (⟨5, 1, v9, (packT ⟨A, B, D.moves, D.come, D.gone⟩).length, bs (packT ⟨A, B, D.moves, D.come, D.gone⟩)⟩ :: []) from hO9))
          have HB9 := Lib.hid ((HO8.out.later hO9.below).below)
          rw [hl9]
          clear hU hO9 d0 d1 d2 d3 d4 hl9
          go_wp2_with fail
          go_ret
          exact ⟨rfl, HB9.out⟩
end Go.Proofs.YtjhaihckbmkiaaaDoor
