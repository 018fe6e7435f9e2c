/- What lies in sectors of a half, as bytes. -/
import Derived.Test.YtpebpchnkhbcfaaLRootOf
namespace Go.Proofs.Ytpebpchnkhbcfaa
open Go.RowKit
set_option linter.unusedVariables false
set_option linter.unusedSimpArgs false

theorem splice_app (C : List Value) : ∀ (A B : List Value), C.length ≤ B.length → splice (A ++ B) A.length C = A ++ (C ++ B.drop C.length) := by
  induction C with
  | nil => intro A B _; simp [splice]
  | cons c C ih =>
    intro A B h
    match B, h with
    | b :: B, h =>
      have e : (A ++ b :: B).set A.length c = (A ++ [c]) ++ B := by simp
      have := ih (A ++ [c]) B (by simpa using h)
      rw [splice, e]
      rw [List.length_append, List.length_singleton] at this
      rw [this]
      simp
def fillB (ss : List (List Int)) (i : Nat) : List Int := ((ss.take i).map (·.take 63)).flatten ++ List.replicate ((ss.length - i) * 63) 0
def bytesB (ss : List (List Int)) : List Int := (ss.map (·.take 63)).flatten
theorem take63_flat (ss : List (List Int)) (h : ∀ s ∈ ss, s.length = 64) : ((ss.map (·.take 63)).flatten).length = ss.length * 63 := by
  induction ss with
  | nil => rfl
  | cons s ss ih =>
    have hs := h s (by simp)
    rw [List.map_cons, List.flatten_cons, List.length_append, ih (fun t ht => h t (by simp [ht])), List.length_take, hs, List.length_cons]
    omega
theorem fillB_length (ss : List (List Int)) (h : ∀ s ∈ ss, s.length = 64) (i : Nat) (hi : i ≤ ss.length) : (fillB ss i).length = ss.length * 63 := by
  unfold fillB
  rw [List.length_append, take63_flat _ (fun s hs => h s (List.mem_of_mem_take hs)), List.length_take, List.length_replicate, Nat.min_eq_left hi, ← Nat.add_mul]
  congr 1
  omega
theorem fillB_all (ss : List (List Int)) : fillB ss ss.length = bytesB ss := by
  unfold fillB bytesB
  rw [List.take_length, Nat.sub_self, Nat.zero_mul, List.replicate_zero, List.append_nil]
theorem fillB_zero (ss : List (List Int)) : fillB ss 0 = List.replicate (ss.length * 63) 0 := by
  unfold fillB
  simp
theorem fillB_byts (ss : List (List Int)) (h : ∀ s ∈ ss, Byts s) (i : Nat) : Byts (fillB ss i) := by
  refine Byts.append (fun z hz => ?_) (zeros_byts _)
  obtain ⟨l, hl, hz⟩ := List.mem_flatten.1 hz
  obtain ⟨s, hs, rfl⟩ := List.mem_map.1 hl
  exact h s (List.mem_of_mem_take hs) z (List.mem_of_mem_take hz)
theorem fillB_step (ss : List (List Int)) (h : ∀ s ∈ ss, s.length = 64) (i : Nat) (hi : i < ss.length) : splice (bs (fillB ss i)) (i * 63) (bs (ss[i].take 63)) = bs (fillB ss (i + 1)) := by
  unfold fillB
  have hA : (((ss.take i).map (·.take 63)).flatten).length = i * 63 := by
    rw [take63_flat _ (fun s hs => h s (List.mem_of_mem_take hs)), List.length_take, Nat.min_eq_left (by omega)]
  have hs := h _ (List.getElem_mem hi)
  rw [bs_append]
  have := splice_app (bs (ss[i].take 63)) (bs (((ss.take i).map (·.take 63)).flatten)) (bs (List.replicate ((ss.length - i) * 63) 0)) (by
    rw [bs_length, bs_length, List.length_take, List.length_replicate, hs]; omega)
  rw [bs_length, hA] at this
  rw [this, List.take_succ_eq_append_getElem hi, List.map_append, List.flatten_append]
  simp only [List.map_cons, List.map_nil, List.flatten_cons, List.flatten_nil, List.append_nil]
  rw [List.append_assoc, bs_append, bs_append]
  congr 2
  rw [bs_length, List.length_take, hs]
  show List.drop _ (List.map _ (List.replicate _ 0)) = List.map _ (List.replicate _ 0)
  rw [List.map_replicate, List.map_replicate, List.drop_replicate]
  congr 1
  have h2 : ss.length - i = (ss.length - (i + 1)) + 1 := by omega
  rw [h2, Nat.succ_mul]
  omega

/-! The store of a sector into a variable, as a rule for a region that draws its order. -/
def okSt (w : World) (x y : Value) : Prop := ∃ (b : Nat) (s : List Value), x = .pointer (some ⟨b, 0, none⟩) ∧ y = .agg s.toArray ∧ isSec s ∧ w.there b 0 64
def stW (w : World) (x y : Value) : World := match x with
  | .pointer (some ⟨b, o, _⟩) => w.setCells b o y.cells.toList
  | _ => w
theorem wp_store_sec {dd : Option Tmp} {x y : Operand} {ty : TypeId} {ps : String} {af : Array Edge} {gd : Option (Nat × Bool)} {a : Act} {w : World} {K : Act → World → Prop} {Q : Exit → Act → World → Prop} (h : okSt w (a.eval x) (a.eval y)) :
    Oper.wp Try.prog ⟨dd, .store 55 x y, ty, ps, af, gd⟩ a w K Q = K (a.put dd undef) (stW w (a.eval x) (a.eval y)) := by
  obtain ⟨b, s, hx, hy, hs, ht⟩ := h
  have hr := run_storeAt_mid (P := Try.prog) w b 0 55 s.toArray (by simpa [hs.1] using ht) (by simpa [hs.1] using info_sector) (all_oneCell_toArray hs.2)
  unfold Oper.wp execOp
  simp only [hx, hy, Sem.run_bind, hr, Result.andThen_ok, Sem.run_pure]
  rfl
theorem zeros_cells (n : Nat) : (madeCells #[Value.int .u8 0] n).toList = bs (List.replicate n 0) := by
  apply List.ext_getElem?
  intro q
  simp only [madeCells, Array.toList_map, List.getElem?_map, Array.toList_range, bs, List.map_replicate]
  by_cases hq : q < n
  · rw [List.getElem?_range hq, List.getElem?_replicate, if_pos hq]
    simp [Nat.mod_one]
  · rw [List.getElem?_eq_none (by simp; omega), List.getElem?_replicate, if_neg hq]; rfl
theorem makeB (n : Nat) (hn : n ≤ 1000000) (W : World) : Sem.run Try.prog (Instr.makeSlice 30 (.int .i64 (n : Int)) (.int .i64 (n : Int))) W = .ok (.slice (some ⟨W.heap.size, 0, none⟩) n n) (W.alloc (.cells (madeCells #[.int .u8 0] n) 5)) := by
  obtain ⟨i0, hi, hz0, hz1, hz2⟩ := info_parts info_u
  have hr := run_make (P := Try.prog) W 30 5 i0 (.int .u8 0) Try.underlying30 hi hz0 .i64 .i64 (n : Int) (n : Int) (by omega) (Int.le_refl _) (by rw [hz2]; omega) (by omega)
  rw [hz1, Int.toNat_natCast, Nat.mul_one] at hr
  exact hr
theorem Own.zerosN {W0 : Base} {w : World} {L : List Rw} (h : Own W0 w L) (n : Nat) (hn : n ≤ 1000000) : Own W0 (w.alloc (.cells (madeCells #[.int .u8 0] n) 5)) (⟨5, 1, .slice (some ⟨w.heap.size, 0, none⟩) n n, n, bs (List.replicate n 0)⟩ :: L) := by
  have := h.made 5 1 (madeCells #[.int .u8 0] n) n (by rw [size_madeCells, Nat.mul_one]) (by unfold maxLen; omega)
  rw [zeros_cells] at this
  exact this
/-- The state behind a sector that was read into a variable: whether its place was made ahead of the call, or behind it. -/
theorem st_ahead {W0 : Base} {w : World} {H : Nat} {s : List Value} {L : List Rw} (h : Own W0 w (rowSec H zSec :: L)) (hs : isSec s) : okSt w (.pointer (some ⟨H, 0, none⟩)) (.agg s.toArray) ∧ ∃ wF, stW w (.pointer (some ⟨H, 0, none⟩)) (.agg s.toArray) = wF ∧ Own W0 wF (rowSec H s :: L) := by
  obtain ⟨_, t2⟩ := sec_cells h (g := H) (s := zSec) (List.mem_cons_self ..) rfl
  refine ⟨⟨H, s, rfl, rfl, hs, t2⟩, _, rfl, ?_⟩
  have h2 := Own.setCells (h := h) s 0
  rw [splice_all' zSec s (by rw [hs.1]; rfl)] at h2
  exact h2
theorem By.head {w : World} {g o n c : Nat} {zs : List Int} (h : By w (.slice (some ⟨g, o, none⟩) n c) zs) (k : Nat) (hk : k ≤ zs.length) : By w (.slice (some ⟨g, o, none⟩) k c) (zs.take k) := by
  have hl : (zs.take k).length = k := by rw [List.length_take]; omega
  obtain ⟨a, c', hv, h1, h2⟩ := h.2.2
  injection hv with e1 e2 e3
  subst e3
  refine ⟨?_, h.2.1.take k, _, c, by rw [hl], by omega, h2⟩
  rw [hl]
  refine .inr ⟨_, c, rfl, fun j u hj => ?_, bs_one _⟩
  have hlt : j < k := by
    rcases Nat.lt_or_ge j k with h3 | h3
    · exact h3
    · rw [List.getElem?_eq_none (by rw [bs_length, hl]; exact h3)] at hj; cases hj
  obtain ⟨g', o', c', hv', _, _, hc⟩ := h.cells (by omega)
  injection hv' with e1 e2 e3
  injection e1 with e1
  injection e1 with e1 e4
  subst e1 e4
  rw [Addr.add_mid, hc j (by omega), ← hj]
  simp [bs, List.getElem?_take, hlt, List.getElem?_eq_getElem (show j < zs.length by omega)]
attribute [local go_sem ↓] wp_store_sec Go.wp_at_zero Go.wp_at_succ

set_option maxHeartbeats 3200000 in
set_option maxRecDepth 100000 in
theorem bytes_any {W0 : Base} {w : World} {l d : Nat} {D : Dk} {side used : Nat} {lv : Value} {dead : Bool} {L : List Rw} (h : DkAt W0 w d D L) (hm : rowLog l d side used lv dead ∈ L) (h6 : 6 ≤ D.last.length) (hup : D.down = false) (hs : side ≤ 1) (x : Nat) (ss : List (List Int))
    (hx : x + ss.length ≤ 10000) (h64 : ∀ s ∈ ss, s.length = 64) (hby : ∀ s ∈ ss, Byts s) (hget : ∀ (i : Nat) (hi : i < ss.length), D.last[2 + side * ((D.last.length - 2) / 2) + (x + i)]? = some (bs ss[i])) :
    Calls Try.prog 48 #[.pointer (some ⟨l, 0, none⟩), .int .i64 x, .int .i64 ss.length] w fun e w' => ∃ g, e = .returned (.slice (some ⟨g, 0, none⟩) (ss.length * 63) (ss.length * 63)) ∧ Own w w' [⟨5, 1, .slice (some ⟨g, 0, none⟩) (ss.length * 63) (ss.length * 63), ss.length * 63, bs (bytesB ss)⟩] := by
  have hzs := zero_sector
  obtain ⟨N, hN⟩ : ∃ N, ss.length * 63 = N := ⟨_, rfl⟩
  have hNb : N ≤ 630000 := by omega
  have hmk := makeB N (by omega)
  have hmul : (ss.length : Int) * 63 = (N : Int) := by omega
  have h0 := (Own.start w).zerosN N (by omega)
  have Hstart := Lib.hid (show Own w _ [⟨5, 1, .slice (some ⟨w.heap.size, 0, none⟩) N N, N, bs (fillB ss 0)⟩] by rw [fillB_zero, hN]; exact h0)
  have H := Lib.hid h
  have Hm := Lib.hid hm
  have H6 := Lib.hid h6
  have Hup := Lib.hid hup
  have H64 := Lib.hid h64
  have Hby := Lib.hid hby
  have Hget := Lib.hid hget
  have HN := Lib.hid hN
  rw [hN]
  clear h0 h hm h6 hup h64 hby hget hN
  go_enter Try.func48, Try.ntmps48
  go_wp2_with fail
  generalize w.alloc (.cells (madeCells #[.int .u8 0] N) 5) = w1 at *
  generalize w.heap.size = g at *
  clear hmk
  go_loopw [15] (fun t wr => ∃ (i : Nat), i ≤ ss.length ∧ t = .int .i64 i ∧ Own w wr [⟨5, 1, .slice (some ⟨g, 0, none⟩) N N, N, bs (fillB ss i)⟩]) (fun t _ => ss.length - (intOf t).toNat)
  case atStart => exact ⟨0, Nat.zero_le _, rfl, Hstart.out⟩
  case round =>
    obtain ⟨i, hi, rfl, hO⟩ := hrel
    by_cases hlt : i < ss.length
    · have hA := H.out.later hO.below
      obtain ⟨c0, c1, _, _, _⟩ := log_cells_mem hA Hm.out
      have hl : l < wr.heap.size := World.block_lt_of_cell? wr _ c0
      have hw1 : IntKind.i64.wrap ((x : Int) + (i : Int)) = ((x + i : Nat) : Int) := by rw [IntWalk.i64_in _ (by omega)]; omega
      obtain ⟨q, hq⟩ : ∃ q, x + i = q := ⟨_, rfl⟩
      rw [hq] at hw1
      have hq1 : q ≤ 100000 := by omega
      have hpl : ∀ W, DkAt W0 W d D L → Calls Try.prog 39 #[.pointer (some ⟨l, 0, none⟩), .int .i64 side, .int .i64 q] W fun e w' => e = .returned (.int .i64 ((2 + side * ((D.last.length - 2) / 2) + q : Nat) : Int)) ∧ W = w' := by
        intro W hW
        obtain ⟨L1, L2, hL⟩ := List.append_of_mem Hm.out
        rw [hL] at hW
        exact place_dk (hW.perm List.perm_middle) H6.out side q hs hq1
      have hgi := Hget.out i hlt
      rw [hq] at hgi
      obtain ⟨pl, hpleq⟩ : ∃ pl, 2 + side * ((D.last.length - 2) / 2) + q = pl := ⟨_, rfl⟩
      rw [hpleq] at hgi hpl
      have hsl := H64.out _ (List.getElem_mem hlt)
      have hsb := Hby.out _ (List.getElem_mem hlt)
      have hstep := fillB_step ss H64.out i hlt
      have hplt : pl < D.last.length := by
        rcases Nat.lt_or_ge pl D.last.length with h1 | h1
        · exact h1
        · rw [List.getElem?_eq_none h1] at hgi; cases hgi
      have hrd : (readM D (pl : Int)).1 = bs ss[i] ∧ (readM D (pl : Int)).2 = 0 := by
        have hr0 : refusedM D (pl : Int) = 0 := by unfold refusedM; rw [Hup.out, if_neg (by decide), if_neg (by omega)]
        unfold readM
        rw [hr0]
        refine ⟨?_, rfl⟩
        show D.last.getD pl [] = _
        rw [List.getD_eq_getElem?_getD, hgi]; rfl
      have Hrd := Lib.hid hrd
      have Hpl := Lib.hid hpl
      have Hstep := Lib.hid hstep
      have Hsl := Lib.hid hsl
      have Hsb := Lib.hid hsb
      have HA := Lib.hid hA
      have HO := Lib.hid hO
      have hsec := isSec_bs ss[i] hsl
      have Hsec := Lib.hid hsec
      clear hrd hpl hstep hsl hsb hA hO hgi hplt hsec hq hpleq
      generalize ss[i] = z at *
      obtain ⟨zv, hzv⟩ : ∃ zv, bs z = zv := ⟨_, rfl⟩
      rw [hzv] at Hrd Hsec
      have HZV := Lib.hid hzv
      clear hzv
      go_upto_region 5 with (fail)
      go_cut [9] (fun s wc => ∃ H, s = .pointer (some ⟨H, 0, none⟩) ∧ Own w wc (rowSec H zv :: [⟨5, 1, .slice (some ⟨g, 0, none⟩) N N, N, bs (fillB ss i)⟩]))
      case first =>
        go_region_with (first
          | (go_at_call 39; refine (Hpl.out _ (by first | exact HA.out | exact HA.out.drew | exact HA.out.alloc _ | exact (HA.out.alloc _).drew | exact HA.out.drew.alloc _)).mono ?_; rintro e w' ⟨rfl, rfl⟩)
          | (go_at_call 21; refine (read_any W0 _ d D L (pl : Int) (by first | exact HA.out | exact HA.out.drew | exact HA.out.alloc _ | exact (HA.out.alloc _).drew | exact HA.out.drew.alloc _)).mono ?_; rintro e w7 ⟨rfl, hb7⟩; rw [Hrd.out.1, Hrd.out.2]; (first | have hO7 := (HO.out.sec zSec rfl wr.heap.size rfl).drew.later hb7 | have hO7 := (HO.out.sec zSec rfl wr.heap.size rfl).later hb7 | have hO7 := (HO.out.drew.later hb7).sec zSec rfl w7.heap.size rfl | have hO7 := (HO.out.later hb7).sec zSec rfl w7.heap.size rfl); obtain ⟨qk, wF, qs, hF⟩ := st_ahead hO7 Hsec.out; have HF := Lib.hid hF; clear hb7 hO7 hF))
        all_goals (go_wp2_with fail; go_meet; exact ⟨_, rfl, HF.out⟩)
      case rest =>
        obtain ⟨H9, rfl, hO9⟩ := hcut
        rw [← HZV.out] at hO9
        have HSW := Lib.hid hO9.swap
        have hy := (hO9.secBy (g := H9) (z := z) (List.mem_cons_self ..) Hsl.out Hsb.out).head 63 (by rw [Hsl.out]; decide)
        have HY := Lib.hid hy
        have hz63 : (z.take 63).length = 63 := by rw [List.length_take, Hsl.out]; rfl
        have HZ63 := Lib.hid hz63
        have hN1 : i * 63 + 63 ≤ N := by have := HN.out; omega
        obtain ⟨q63, hq63⟩ : ∃ q63, i * 63 = q63 := ⟨_, rfl⟩
        have Hq63 := Lib.hid hq63
        rw [hq63] at hN1 Hstep
        have hq0 : (0 : Int) ≤ (q63 : Int) := by omega
        have hNq : ¬ N = q63 := by omega
        have hq9 : (q63 : Int) ≤ (N : Int) := by omega
        have hw63 : IntKind.i64.wrap ((i : Int) * 63) = (q63 : Int) := by rw [IntWalk.i64_in _ (by omega)]; omega
        obtain ⟨z63, hzz⟩ : ∃ z63, z.take 63 = z63 := ⟨_, rfl⟩
        rw [hzz] at HY HZ63 Hstep
        clear hO9 hy hz63 hq63 c0 c1 hl hw1 hzz
        go_upto_region 6 with (fail)
        go_region_held3 (fun _ => True) (exact trivial) (first
          | (refine step_copy_into (by rfl) (.tmp 39) (.tmp 40) 30 (by rfl) q63 (N - q63) (N - q63) (.slice (some ⟨H9, 0, none⟩) 63 64) z63 (by rfl) (by rfl) (by first | exact HSW.out.drew | exact HSW.out) 5 Try.underlying30 size_u (by first | exact HY.out.drew | exact HY.out) 63 (by rw [HZ63.out]; omega) (by omega) ?_; intro w8 hO8))
        have ht63 : z63.take 63 = z63 := List.take_of_length_le (by rw [HZ63.out]; exact Nat.le_refl _)
        rw [ht63, Hstep.out] at hO8
        have HO8 := Lib.hid (hO8.of_mem (.cons_cons _ (List.nil_sublist _)))
        clear hO8 ht63 hw63
        go_wp2_with fail
        exact ⟨⟨i + 1, by omega, by go_num, HO8.out⟩, by simp [intOf]; omega⟩
    · obtain rfl : i = ss.length := by omega
      rw [fillB_all] at hO
      have HO := Lib.hid hO
      clear hO
      go_wp2_with fail
      go_ret
      exact ⟨g, rfl, HO.out⟩
end Go.Proofs.Ytpebpchnkhbcfaa
