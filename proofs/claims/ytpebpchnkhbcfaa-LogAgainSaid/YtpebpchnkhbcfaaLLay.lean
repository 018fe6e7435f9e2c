/- A record, and the root, as sectors in new memory. -/
import Derived.Test.YtpebpchnkhbcfaaLCopy
import Derived.Deep.RegionHeld3
import Derived.Deep.DeepCutAuto
namespace Go.Proofs.Ytpebpchnkhbcfaa
open Go.RowKit
set_option linter.unusedVariables false
set_option linter.unusedSimpArgs false

theorem list_any {W0 : Base} {w : World} {l d : Nat} {D : Dk} {side used : Nat} {recs : List (List Int)} {dead : Bool} {L : List Rw} (h : LgAt W0 w l d D side used recs dead L) (hR : Recs recs) (hn : recs.length ≤ 1000000) :
    Calls Try.prog 11 #[.pointer (some ⟨l, 0, none⟩)] w fun e w' => ∃ lv vs M, e = .returned lv ∧ Own w w' (rowV lv vs :: M) ∧ Lst M vs recs := by
  obtain ⟨lv, vs, M, h1, h2⟩ := h.rest
  obtain ⟨c0, c1, c2, c3, c4, f, hl⟩ := log_cells h1
  have hv := h1.own.tail
  obtain ⟨a, c, rfl, hP, hm⟩ := h2.parts ((hv.tail).of_mem (List.sublist_append_left M L)) hv
  have hzl : (vs.zip recs).length = vs.length := by rw [List.length_zip, ← h2.1, Nat.min_self]
  have hzr := zip_recs vs recs h2.1
  have Hc := Lib.hid (copies_any a c (vs.zip recs) w hP (by rw [hzl, h2.1]; exact hn) (fun p hp => by
    have : p.2 ∈ (vs.zip recs).map (·.2) := List.mem_map_of_mem hp
    rw [hzr] at this
    have := (hR _ this).2
    omega))
  rw [hzl, hzr] at Hc
  clear h h1 h2 hv hP hzl hzr
  go_enter Try.func11, Try.ntmps11
  go_wp2_with fail
  refine Hc.out.mono ?_
  rintro e w1 ⟨lv2, vs2, M2, rfl, hO, hL⟩
  have HO := Lib.hid hO
  have HL := Lib.hid hL
  clear hO hL
  go_wp2_with fail
  go_ret
  exact ⟨_, _, _, rfl, HO.out, HL.out⟩

/-- The sum of one row of bytes. -/
theorem IsBytes.of_by {w : World} {v : Value} {zs : List Int} (h : By w v zs) : IsBytes w v zs := by
  obtain ⟨a, c, hv, h1, h2⟩ := h.2.2
  refine ⟨a, c, hv, ⟨h1, by unfold maxLen at h2; omega, fun ha => ?_⟩, fun hne => ?_, h.2.1⟩
  · rcases h.1 with ⟨e, _, _⟩ | ⟨ad, c', e, _⟩
    · rw [hv] at e
      injection e
    · rw [hv, ha] at e
      injection e with e1
      cases e1
  · obtain ⟨g, o, c', hv', _, _, hc⟩ := h.cells (List.length_pos_iff.2 hne)
    rw [hv] at hv'
    injection hv' with e1 e2 e3
    refine ⟨g, o, e1, fun j hj => ?_⟩
    rw [hc j hj, List.getD_eq_getElem?_getD, List.getElem?_eq_getElem hj]
    rfl
theorem sum_one (R cap : Nat) (v : Value) (zs : List Int) (w : World) (hc : w.cell? ⟨R, 0, none⟩ = some v) (hb : By w v zs) :
    Calls Try.prog 43 #[.slice (some ⟨R, 0, none⟩) 1 cap] w fun e w' => e = .returned (.int .u32 (crcI zs)) ∧ w = w' := by
  have := of_any R cap [(v, zs)] w (by simp) (fun i hi => by
    obtain rfl : i = 0 := by simpa using hi
    exact ⟨hc, IsBytes.of_by hb⟩)
  simpa [crcI] using this
theorem cell_made (w : World) (T : TypeId) (v : Value) (H : Nat) (hH : H = w.heap.size) : (w.alloc (.cells #[v] T)).cell? ⟨H, 0, none⟩ = some v := by
  subst hH
  rw [World.cell?_alloc_new]
  rfl
theorem allOf_three (u v x : Value) (a b c : List Int) : allOf [(u, a), (v, b), (x, c)] = a ++ (b ++ (c ++ [])) := by simp [allOf]
theorem By.len {w : World} {v : Value} {zs : List Int} (h : By w v zs) : zs.length ≤ maxLen := by
  obtain ⟨a, c, _, h1, h2⟩ := h.2.2
  omega
theorem three_by {w : World} {u v x : Value} {a b c : List Int} (h : By w u a) (k : By w v b) (l : By w x c) : ∀ p ∈ [(u, a), (v, b), (x, c)], By w p.1 p.2 := by
  intro p hp
  simp only [List.mem_cons, List.not_mem_nil, or_false] at hp
  rcases hp with rfl | rfl | rfl <;> assumption
theorem two_by {w : World} {u v : Value} {a b : List Int} (h : By w u a) (k : By w v b) : ∀ p ∈ [(u, a), (v, b)], By w p.1 p.2 := by
  intro p hp
  simp only [List.mem_cons, List.not_mem_nil, or_false] at hp
  rcases hp with rfl | rfl <;> assumption
theorem Own.zeros {W0 : Base} {w : World} {L : List Rw} (h : Own W0 w L) : Own W0 (w.alloc (.cells (madeCells #[.int .u8 0] 8) 5)) (rowU (.slice (some ⟨w.heap.size, 0, none⟩) 8 8) (List.replicate 8 0) :: L) := by
  have := h.made 5 1 (madeCells #[.int .u8 0] 8) 8 (by rw [size_madeCells]) (by unfold maxLen; decide)
  have e : (madeCells #[Value.int .u8 0] 8).toList = bs (List.replicate 8 0) := by kernel_rfl
  rw [e] at this
  exact this
theorem zeros_row (w : World) : Own w (w.alloc (.cells (madeCells #[.int .u8 0] 8) 5)) [rowU (.slice (some ⟨w.heap.size, 0, none⟩) 8 8) (List.replicate 8 0)] := by
  have := (Own.start w).made 5 1 (madeCells #[.int .u8 0] 8) 8 (by rw [size_madeCells]) (by unfold maxLen; decide)
  have e : (madeCells #[Value.int .u8 0] 8).toList = bs (List.replicate 8 0) := by kernel_rfl
  rw [e] at this
  exact this

theorem make8 (W : World) : Sem.run Try.prog (Instr.makeSlice 81 (.int .i64 8) (.int .i64 8)) W = .ok (.slice (some ⟨W.heap.size, 0, none⟩) 8 8) (W.alloc (.cells (madeCells #[.int .u8 0] 8) 5)) := by
  obtain ⟨i0, hi, hz0, hz1, hz2⟩ := info_parts info_u
  have hr := run_make (P := Try.prog) W 81 5 i0 (.int .u8 0) Try.underlying81 hi hz0 .i64 .i64 (8 : Int) (8 : Int) (by omega) (Int.le_refl _) (by rw [hz2]; omega) (by omega)
  rw [hz1] at hr
  exact hr
theorem pack3 (W : World) (H : Nat) (hH : H = W.heap.size) (v1 v2 v3 : Value) (z1 z2 z3 : List Int) (h1 : By W v1 z1) (h2 : By W v2 z2) (h3 : By W v3 z3) (hl : z1.length + (z2.length + z3.length) ≤ 140737488355328) :
    Calls Try.prog 41 #[.slice (some ⟨H, 0, none⟩) 3 3] (W.alloc (.cells #[v1, v2, v3] 81)) fun e w' => ∃ v, e = .returned v ∧ Own (W.alloc (.cells #[v1, v2, v3] 81)) w' [rowU v (z1 ++ (z2 ++ (z3 ++ [])))] := by
  have := pack_any (some ⟨H, 0, none⟩) 3 [(v1, z1), (v2, z2), (v3, z3)] _ (parts_list W 81 [(v1, z1), (v2, z2), (v3, z3)] (three_by h1 h2 h3) H hH) (by simp [maxLen]) (by rw [allOf_three]; simp; omega)
  rw [allOf_three] at this
  exact this
theorem pack2 (W : World) (H : Nat) (hH : H = W.heap.size) (v1 v2 : Value) (z1 z2 : List Int) (h1 : By W v1 z1) (h2 : By W v2 z2) (hl : z1.length + z2.length ≤ 140737488355328) :
    Calls Try.prog 41 #[.slice (some ⟨H, 0, none⟩) 2 2] (W.alloc (.cells #[v1, v2] 81)) fun e w' => ∃ v, e = .returned v ∧ Own (W.alloc (.cells #[v1, v2] 81)) w' [rowU v (z1 ++ (z2 ++ []))] := by
  have := pack_any (some ⟨H, 0, none⟩) 2 [(v1, z1), (v2, z2)] _ (parts_list W 81 [(v1, z1), (v2, z2)] (two_by h1 h2) H hH) (by simp [maxLen]) (by rw [allOf_two]; simp; omega)
  rw [allOf_two] at this
  simpa using this
theorem recB_eq (b : List Int) : le4 (crcI b) ++ (List.replicate 8 0 ++ (sizedL b ++ [])) = recB b := by rw [List.append_nil]; rfl
theorem zeros8_byts : Byts (List.replicate 8 0) := zeros_byts 8
/-- A row of sectors of the call's own, each with these bytes. -/
def rowSecs (v : Value) (ss : List (List Int)) : Rw := ⟨55, 64, v, ss.length, (ss.map bs).flatten⟩

theorem Pc.strip {L : List Rw} {x : Rw} {v : Value} {zs : List Int} (h : Pc (x :: L) v zs) (hx : x.size ≠ 1) : Pc L v zs := by
  obtain ⟨a, c, hv, h1, h2, hz, h3⟩ := h
  refine ⟨a, c, hv, h1, h2, hz, ?_⟩
  rcases h3 with h3 | ⟨g, o, ha, h3⟩
  · exact .inl h3
  · refine .inr ⟨g, o, ha, fun hne => ?_⟩
    obtain ⟨cap, ys, hm, h4⟩ := h3 hne
    rcases List.mem_cons.1 hm with e | hm
    · exact absurd (by rw [← e]; rfl) hx
    · exact ⟨cap, ys, hm, h4⟩
theorem zSec_bs : zSec = bs (List.replicate 64 0) := rfl
theorem wpList_make_sec {ops : Array Oper} {rest : List Oper} {op : Oper} {a : Act} {w : World} {Q : Exit → Act → World → Prop} (hgd : op.guard = none) (x y : Operand) (ho : op.op = .makeSlice 50 x y) (n : Nat) (hx : a.eval x = .int .i64 (n : Int)) (hy : a.eval y = .int .i64 (n : Int)) (hn : n ≤ 4096)
    (h : wpList Try.prog ops Q rest (a.put op.dst (.slice (some ⟨w.heap.size, 0, none⟩) n n)) (w.alloc (.cells (madeCells zSec.toArray (n * 64)) 55))) : wpList Try.prog ops Q (op :: rest) a w := by
  refine wpList_plain hgd fun K hK => ?_
  obtain ⟨i0, hi, hz0, hz1, hz2⟩ := info_parts info_s
  have hr := run_make (P := Try.prog) w 50 55 i0 (.agg zSec.toArray) Try.underlying50 hi hz0 .i64 .i64 (n : Int) (n : Int) (by omega) (Int.le_refl _) (by rw [hz2]; omega) (by omega)
  rw [hz1] at hr
  unfold Oper.wp execOp
  simp only [ho, hx, hy, Sem.run_bind, hr, Result.andThen_ok, Sem.run_pure]
  exact hK _ _ h
theorem Own.madeSecs {W0 : Base} {w : World} {L : List Rw} (h : Own W0 w L) (n : Nat) (hn : n ≤ 4096) : Own W0 (w.alloc (.cells (madeCells zSec.toArray (n * 64)) 55)) (rowSecs (.slice (some ⟨w.heap.size, 0, none⟩) n n) (List.replicate n (List.replicate 64 0)) :: L) := by
  have h2 := h.made 55 64 (madeCells zSec.toArray (n * 64)) n (size_madeCells _ _) (by unfold maxLen; omega)
  rw [made_flat] at h2
  unfold rowSecs
  rw [List.length_replicate, List.map_replicate]
  exact h2
/-- Sectors, of which the first i are those of a record. -/
def laySecs (b : List Int) (i : Nat) : List (List Int) := (layB b).take i ++ List.replicate (roomM b.length - i) (List.replicate 64 0)
theorem laySecs_length (b : List Int) (i : Nat) (hi : i ≤ roomM b.length) : (laySecs b i).length = roomM b.length := by
  unfold laySecs
  rw [List.length_append, List.length_take, layB_length, List.length_replicate]; omega
theorem laySecs_all (b : List Int) : laySecs b (roomM b.length) = layB b := by
  unfold laySecs
  rw [Nat.sub_self, List.replicate_zero, List.append_nil, List.take_of_length_le (by rw [layB_length]; exact Nat.le_refl _)]
theorem laySecs_64 (b : List Int) (i : Nat) : ∀ s ∈ (laySecs b i).map bs, s.length = 64 := by
  intro s hs
  obtain ⟨l, hl, rfl⟩ := List.mem_map.1 hs
  rw [bs_length]
  rcases List.mem_append.1 hl with h1 | h1
  · obtain ⟨k, _, rfl⟩ := List.mem_map.1 (List.mem_of_mem_take h1)
    exact cutB_length _ _
  · rw [(List.mem_replicate.1 h1).2, List.length_replicate]
theorem laySecs_get (b : List Int) (i : Nat) (hi : i < roomM b.length) : (laySecs b i)[i]? = some (List.replicate 64 0) := by
  unfold laySecs
  rw [List.getElem?_append_right (by rw [List.length_take, layB_length]; omega), List.length_take, layB_length, Nat.min_eq_left (by omega), Nat.sub_self, List.getElem?_replicate, if_pos (by omega)]
theorem laySecs_set (b : List Int) (i : Nat) (hi : i < roomM b.length) : (laySecs b i).set i (cutB (recB b) i) = laySecs b (i + 1) := by
  unfold laySecs
  have hl : ((layB b).take i).length = i := by rw [List.length_take, layB_length]; omega
  have hr : roomM b.length - i = (roomM b.length - (i + 1)) + 1 := by omega
  rw [hr, List.replicate_succ, List.set_append_right _ _ (by omega), hl, Nat.sub_self, List.set_cons_zero, List.take_succ_eq_append_getElem (by rw [layB_length]; exact hi), List.append_assoc, List.singleton_append]
  simp [layB]
/-- A sector is filled with the record's next bytes. -/
theorem lay_fill {W0 : Base} {w : World} {g n cap : Nat} {b : List Int} {i k : Nat} {L : List Rw} (hi : i < roomM b.length) (hk : k = min ((recB b).drop (i * 63)).length 63)
    (h : Own W0 w (⟨55, 64, .slice (some ⟨g, 0, none⟩) n cap, n, splice ((laySecs b i).map bs).flatten (i * 64) (bs (((recB b).drop (i * 63)).take k))⟩ :: L)) : Own W0 w (⟨55, 64, .slice (some ⟨g, 0, none⟩) n cap, n, ((laySecs b (i + 1)).map bs).flatten⟩ :: L) := by
  have hl := laySecs_length b i (by omega)
  have ht : ((recB b).drop (i * 63)).take k = ((recB b).drop (i * 63)).take 63 := by
    rw [hk]
    by_cases hc : ((recB b).drop (i * 63)).length ≤ 63
    · rw [Nat.min_eq_left hc, List.take_of_length_le (Nat.le_refl _), List.take_of_length_le hc]
    · rw [Nat.min_eq_right (by omega)]
  rw [ht] at h
  have hlt : i < ((laySecs b i).map bs).length := by rw [List.length_map, hl]; exact hi
  rw [flat_fill 64 (by decide) _ (laySecs_64 b i) i hlt _ (by rw [bs_length, List.length_take]; omega)] at h
  have hg : ((laySecs b i).map bs)[i] = bs (List.replicate 64 0) := by
    have := laySecs_get b i hi
    have h2 : ((laySecs b i).map bs)[i]? = some (bs (List.replicate 64 0)) := by rw [List.getElem?_map, this]; rfl
    rw [List.getElem?_eq_getElem hlt] at h2
    injection h2
  have he : ((laySecs b i).map bs).set i (bs (((recB b).drop (i * 63)).take 63) ++ (((laySecs b i).map bs)[i]).drop (bs (((recB b).drop (i * 63)).take 63)).length) = (laySecs b (i + 1)).map bs := by
    rw [hg, ← laySecs_set b i hi, List.map_set]
    congr 1
    unfold cutB padTo
    rw [bs_append, bs_length]
    congr 1
    show List.drop _ (List.map _ (List.replicate 64 0)) = List.map _ (List.replicate _ 0)
    rw [List.map_replicate, List.map_replicate, List.drop_replicate]
  rw [he] at h
  exact h

attribute [local go_sem ↓] Go.wp_at_zero Go.wp_at_succ
set_option maxHeartbeats 3200000 in
set_option maxRecDepth 100000 in
/-- The first statement of lay: the record's bytes. -/
theorem lay_bytes (v : Value) (b : List Int) (w : World) (hb : By w v b) (hl : b.length ≤ 4096) :
    Calls Try.prog 27 #[v] w fun e w' => ∃ lv, e = .returned lv ∧ Own w w' [rowSecs lv (layB b)] := by
  have Hb := Lib.hid hb
  have hz := hb.2.1
  have Hz := Lib.hid hz
  obtain ⟨a0, c0, rfl, hc1, hc2⟩ := hb.2.2
  have Hc1 := Lib.hid hc1
  have hlt4 : b.length < 4294967296 := by omega
  have hcb := crcI_bounds b
  have hwr : IntKind.i64.wrap (crcI b) = crcI b := IntWalk.i64_in _ (by omega)
  have Hr := Lib.hid (recB_byts b hz hl)
  clear hb hz hc1 hc2
  go_enter Try.func27, Try.ntmps27
  go_upto_region 1 with (fail)
  go_cut [3] (fun s wc => Own w wc [rowU s (recB b)])
  case first =>
    have hmk := make8
    have Hc4 := Lib.hid (le4_byts _ hcb.1 hcb.2)
    have Hs4 := Lib.hid (sizedL_byts b Hz.out hlt4)
    go_region_with (first
      | (go_at_call 43; refine (sum_one _ _ (.slice a0 b.length c0) b _ ?_ ?_).mono ?_; (repeat (first | exact cell_made _ _ _ _ (by simp) | refine cell_drew ?_ | refine cell_alloc ?_ _)); (repeat (first | exact Hb.out | refine By.drew ?_ | refine By.alloc ?_ _)); rintro e w' ⟨rfl, rfl⟩)
      | (go_at_call 42; refine (num_any (crcI b) _ hcb.1 hcb.2).mono ?_; rintro e w3 ⟨v3, rfl, hO3⟩; obtain ⟨a3, k3, d3, rfl⟩ := hO3.form3; (first | have HO3 := Lib.hid ((((Own.start w).zeros).alloc _).drew.join hO3) | have HO3 := Lib.hid ((((Own.start w).alloc _).zeros).drew.join hO3) | have HO3 := Lib.hid (((Own.start w).alloc _).drew.join hO3)); have HB3 := Lib.hid (Hb.out.later HO3.out.below); clear hO3)
      | (go_at_call 44; refine (raw_any (.slice a0 b.length c0) b _ ?_ hlt4).mono ?_; (repeat (first | exact HB3.out | refine By.drew ?_ | refine By.alloc ?_ _)); rintro e w4 ⟨v4, rfl, hO4⟩; obtain ⟨a4, k4, d4, rfl⟩ := hO4.form3; (first | have HO4 := Lib.hid (HO3.out.join hO4) | have HO4 := Lib.hid ((HO3.out.zeros).join hO4)); clear hO4)
      | (go_at_call 41; refine (pack3 _ _ ?_ _ _ _ (le4 (crcI b)) (List.replicate 8 0) (sizedL b) ?_ ?_ ?_ ?_).mono ?_; (first | rfl | simp); (first | exact (HO4.out.only (by simp)).by Hc4.out | exact (HO4.out.zeros.only (by simp)).by Hc4.out); (first | exact (HO4.out.only (by simp)).by zeros8_byts | exact (HO4.out.zeros.only (by simp)).by zeros8_byts); (first | exact (HO4.out.only (by simp)).by Hs4.out | exact (HO4.out.zeros.only (by simp)).by Hs4.out); (rw [sizedL_length]; simp [le4]; omega); rintro e w5 ⟨v5, rfl, hO5⟩; rw [recB_eq] at hO5; (first | have HO5 := Lib.hid (((HO4.out.alloc _).join hO5).only (List.mem_append_left _ (List.mem_cons_self ..))) | have HO5 := Lib.hid (((HO4.out.zeros.alloc _).join hO5).only (List.mem_append_left _ (List.mem_cons_self ..)))); clear hO5))
    all_goals (go_wp2_with fail; go_meet; exact HO5.out)
  case rest =>
    have hO := hcut
    clear hcut
    obtain ⟨a3, k3, c3, rfl⟩ := hO.form3
    have HO := Lib.hid hO
    have HP := Lib.hid (Pc.all hO Hr.out)
    clear hO hwr hcb hlt4
    have hn4 : roomM b.length ≤ 4096 := by unfold roomM; omega
    have hnb : b.length ≤ 140737488355328 := by omega
    go_wp2_with (first
      | (go_at_call 16; refine (room_any b.length _ hnb).mono ?_; rintro e w' ⟨rfl, rfl⟩)
      | (refine wpList_make_sec rfl (.tmp 18) (.tmp 18) rfl (roomM b.length) rfl rfl hn4 ?_))
    have HS := Lib.hid ((HO.out.madeSecs (roomM b.length) hn4))
    have HP2 := Lib.hid (HP.out.cons (rowSecs (.slice (some ⟨wc.heap.size, 0, none⟩) (roomM b.length) (roomM b.length)) (List.replicate (roomM b.length) (List.replicate 64 0))))
    generalize wc.alloc (.cells (madeCells zSec.toArray (roomM b.length * 64)) 55) = w6 at *
    generalize wc.heap.size = g at *
    have hrl := recB_length b
    have hrm : roomM b.length * 63 ≤ b.length + 78 ∧ b.length + 16 ≤ roomM b.length * 63 := by unfold roomM; omega
    have Hrl := Lib.hid hrl
    obtain ⟨n, hn⟩ : ∃ n, roomM b.length = n := ⟨_, rfl⟩
    have Hn := Lib.hid hn
    rw [hn] at HS HP2 hrm hn4 ⊢
    obtain ⟨h63, h16⟩ := hrm
    clear hrl hn HP HO
    go_loopw [3, 23] (fun s t wr => ∃ (i : Nat), i ≤ n ∧ t = .int .i64 i ∧ Pc [rowU (.slice a3 k3 c3) (recB b)] s ((recB b).drop (i * 63)) ∧ Own w wr [⟨55, 64, .slice (some ⟨g, 0, none⟩) n n, n, ((laySecs b i).map bs).flatten⟩, rowU (.slice a3 k3 c3) (recB b)]) (fun _ t _ => n - (intOf t).toNat)
    case atStart =>
      refine ⟨0, Nat.zero_le _, rfl, ?_, ?_⟩
      · have := HP2.out.strip (by decide : (64 : Nat) ≠ 1)
        simpa using this
      · have h1 := HS.out
        unfold rowSecs at h1
        rw [List.length_replicate] at h1
        unfold laySecs
        rw [List.take_zero, List.nil_append, Nat.sub_zero, Hn.out]
        exact h1
    case round =>
      obtain ⟨i, hi, rfl, hp, hO⟩ := hrel
      by_cases hlt : i < n
      · have hb := (hp.cons ⟨55, 64, .slice (some ⟨g, 0, none⟩) n n, n, ((laySecs b i).map bs).flatten⟩).by hO
        have hne : 0 < ((recB b).drop (i * 63)).length := by rw [List.length_drop, Hrl.out]; omega
        have Hb2 := Lib.hid hb
        have Hp := Lib.hid hp
        have HO := Lib.hid hO
        obtain ⟨g2, o2, c2, rfl, hc1, hc2, hcl⟩ := hb.cells hne
        have hL2 : ((recB b).drop (i * 63)).drop (min ((recB b).drop (i * 63)).length 63) = (recB b).drop ((i + 1) * 63) := by
          by_cases hc : ((recB b).drop (i * 63)).length ≤ 63
          · rw [Nat.min_eq_left hc, List.drop_of_length_le (Nat.le_refl _), List.drop_of_length_le]
            rw [List.length_drop] at hc
            omega
          · rw [Nat.min_eq_right (by omega), List.drop_drop]
            congr 1
            omega
        obtain ⟨m, hm⟩ : ∃ m, ((recB b).drop (i * 63)).length = m := ⟨_, rfl⟩
        obtain ⟨k, hk⟩ : ∃ k, min m 63 = k := ⟨_, rfl⟩
        have HL2 := Lib.hid hL2
        have Hm := Lib.hid hm
        have Hk := Lib.hid hk
        have hkm : k ≤ m := by omega
        have hcm : m ≤ c2 := by omega
        unfold maxLen at hc2
        have hi0 : (0 : Int) ≤ (i : Int) := by omega
        have hi1 : (i : Int) < (n : Int) := by omega
        have hfit : i * 64 + k ≤ n * 64 := by omega
        have hkm' : k = min ((recB b).drop (i * 63)).length 63 := by rw [Hm.out]; omega
        have Hkm := Lib.hid hkm'
        rw [hm] at Hb2 Hp hne ⊢
        clear hb hp hO hL2 hm hk hkm' hc1 hcl HS HP2
        by_cases hck : c2 = k
        · subst hck
          obtain rfl : m = c2 := by omega
          go_wp2_with (refine wpList_copy_into rfl (.tmp 30) (.tmp 31) 30 rfl (i * 64) 63 64 _ ((recB b).drop (i * 63)) rfl rfl HO.out 5 Try.underlying30 size_u Hb2.out m Hkm.out hfit ?_)
          intro w7 hO7
          rw [← List.map_drop, ← List.map_take] at hO7
          have HO7 := Lib.hid (lay_fill (by rw [Hn.out]; exact hlt) Hkm.out hO7)
          have HP7 := Lib.hid (show Pc [rowU (.slice a3 k3 c3) (recB b)] (.slice (some ⟨g2, o2, none⟩) 0 0) ((recB b).drop ((i + 1) * 63)) by
            rw [← HL2.out, Hm.out, Hk.out, List.drop_of_length_le (by rw [Hm.out]; exact Nat.le_refl _)]
            exact Pc.empty _ _ _ _ (Nat.zero_le _))
          clear hO7
          go_wp2_with fail
          exact ⟨⟨i + 1, by omega, by go_num, HP7.out, HO7.out⟩, by simp [intOf]; omega⟩
        · go_wp2_with (refine wpList_copy_into rfl (.tmp 30) (.tmp 31) 30 rfl (i * 64) 63 64 _ ((recB b).drop (i * 63)) rfl rfl HO.out 5 Try.underlying30 size_u Hb2.out k Hkm.out hfit ?_)
          intro w7 hO7
          rw [← List.map_drop, ← List.map_take] at hO7
          have HO7 := Lib.hid (lay_fill (by rw [Hn.out]; exact hlt) Hkm.out hO7)
          have HP7 := Lib.hid (show Pc [rowU (.slice a3 k3 c3) (recB b)] (.slice (some ⟨g2, o2 + k, none⟩) (m - k) (c2 - k)) ((recB b).drop ((i + 1) * 63)) by
            rw [← HL2.out, Hm.out, Hk.out]
            have h1 := Hp.out
            rw [← Hm.out] at h1
            exact h1.rest k (m - k) (by rw [Hm.out]; exact hkm) (by rw [Hm.out]))
          clear hO7
          go_wp2_with fail
          exact ⟨⟨i + 1, by omega, by go_num, HP7.out, HO7.out⟩, by simp [intOf]; omega⟩
      · obtain rfl : i = n := by omega
        have HF := Lib.hid (show Own w wr [rowSecs (.slice (some ⟨g, 0, none⟩) i i) (layB b)] by
          have h1 := hO.of_mem (List.sublist_append_left [_] [rowU (.slice a3 k3 c3) (recB b)])
          rw [← Hn.out, laySecs_all] at h1
          unfold rowSecs
          rw [layB_length, ← Hn.out]
          exact h1)
        clear hO hp HS HP2
        go_wp2_with fail
        go_ret
        exact ⟨_, rfl, HF.out⟩
end Go.Proofs.Ytpebpchnkhbcfaa
