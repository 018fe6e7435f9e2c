/- Texts one behind the other, each in a section of its own: what calls make of memory, step by step. -/
import Derived.Test.YtkhnkidggcjfeaaGreatDoorPackNeedHits7
import Derived.Deep.RegionHeld3
import Derived.Deep.DeepCutAuto
set_option linter.unusedVariables false
set_option linter.unusedSimpArgs false
set_option maxRecDepth 100000
section
namespace Go.Proofs.YtkhnkidggcjfeaaGreatDoor
open Go.RowKit
theorem logs_any {W0 : Base} {w : World} {l d : Nat} {D : Dk} {side used : Nat} {recs : List (List Int)} {dead : Bool} {L : List Rw} (h : LgAt W0 w l d D side used recs dead L) (hR : Recs recs) (hn : recs.length ≤ 1000000) :
    Calls Tryz.prog 45 #[.pointer (some ⟨l, 0, none⟩)] w fun e w' => ∃ lv vs M, e = .returned lv ∧ Own w w' (rowV lv vs :: M) ∧ Lst M vs recs := by
  obtain ⟨lv, vs, M, h1, h2⟩ := h.rest
  obtain ⟨c0, c1, c2, c3, c4, f, hl⟩ := log_cells h1
  have hv := h1.own.tail
  obtain ⟨a, c, rfl, hP, hm⟩ := h2.parts ((hv.tail).of_mem (List.sublist_append_left M L)) hv
  have hzl : (vs.zip recs).length = vs.length := by rw [List.length_zip, ← h2.1, Nat.min_self]
  have hzr := zip_recs vs recs h2.1
  have Hc := Lib.hid (copies_any a c (vs.zip recs) w hP (by rw [hzl, h2.1]; exact hn) (fun p hp => by
    have : p.2 ∈ (vs.zip recs).map (·.2) := List.mem_map_of_mem hp
    rw [hzr] at this
    have := (hR _ this).2
    omega))
  rw [hzl, hzr] at Hc
  clear h h1 h2 hv hP hzl hzr
  go_enter Tryz.func45, Tryz.ntmps45
  go_wp2_with fail
  refine Hc.out.mono ?_
  rintro e w1 ⟨lv2, vs2, M2, rfl, hO, hL⟩
  have HO := Lib.hid hO
  have HL := Lib.hid hL
  clear hO hL
  go_wp2_with fail
  go_ret
  exact ⟨_, _, _, rfl, HO.out, HL.out⟩
theorem IsBytes.of_by {w : World} {v : Value} {zs : List Int} (h : By w v zs) : IsBytes w v zs := by
  obtain ⟨a, c, hv, h1, h2⟩ := h.2.2
  refine ⟨a, c, hv, ⟨h1, by unfold maxLen at h2; omega, fun ha => ?_⟩, fun hne => ?_, h.2.1⟩
  · rcases h.1 with ⟨e, _, _⟩ | ⟨ad, c', e, _⟩
    · rw [hv] at e
      injection e
    · rw [hv, ha] at e
      injection e with e1
      cases e1
  · obtain ⟨g, o, c', hv', _, _, hc⟩ := h.cells (List.length_pos_iff.2 hne)
    rw [hv] at hv'
    injection hv' with e1 e2 e3
    refine ⟨g, o, e1, fun j hj => ?_⟩
    rw [hc j hj, List.getD_eq_getElem?_getD, List.getElem?_eq_getElem hj]
    rfl
theorem sum_one (R cap : Nat) (v : Value) (zs : List Int) (w : World) (hc : w.cell? ⟨R, 0, none⟩ = some v) (hb : By w v zs) :
    Calls Tryz.prog 145 #[.slice (some ⟨R, 0, none⟩) 1 cap] w fun e w' => e = .returned (.int .u32 (crcI zs)) ∧ w = w' := by
  have := of_any R cap [(v, zs)] w (by simp) (fun i hi => by
    obtain rfl : i = 0 := by simpa using hi
    exact ⟨hc, IsBytes.of_by hb⟩)
  simpa [crcI] using this
theorem cell_made (w : World) (T : TypeId) (v : Value) (H : Nat) (hH : H = w.heap.size) : (w.alloc (.cells #[v] T)).cell? ⟨H, 0, none⟩ = some v := by
  subst hH
  rw [World.cell?_alloc_new]
  rfl
theorem allOf_three (u v x : Value) (a b c : List Int) : allOf [(u, a), (v, b), (x, c)] = a ++ (b ++ (c ++ [])) := by simp [allOf]
theorem By.len {w : World} {v : Value} {zs : List Int} (h : By w v zs) : zs.length ≤ maxLen := by
  obtain ⟨a, c, _, h1, h2⟩ := h.2.2
  omega
theorem three_by {w : World} {u v x : Value} {a b c : List Int} (h : By w u a) (k : By w v b) (l : By w x c) : ∀ p ∈ [(u, a), (v, b), (x, c)], By w p.1 p.2 := by
  intro p hp
  simp only [List.mem_cons, List.not_mem_nil, or_false] at hp
  rcases hp with rfl | rfl | rfl <;> assumption
theorem two_by {w : World} {u v : Value} {a b : List Int} (h : By w u a) (k : By w v b) : ∀ p ∈ [(u, a), (v, b)], By w p.1 p.2 := by
  intro p hp
  simp only [List.mem_cons, List.not_mem_nil, or_false] at hp
  rcases hp with rfl | rfl <;> assumption
theorem Own.zeros {W0 : Base} {w : World} {L : List Rw} (h : Own W0 w L) : Own W0 (w.alloc (.cells (madeCells #[.int .u8 0] 8) 5)) (rowU (.slice (some ⟨w.heap.size, 0, none⟩) 8 8) (List.replicate 8 0) :: L) := by
  have := h.made 5 1 (madeCells #[.int .u8 0] 8) 8 (by rw [size_madeCells]) (by unfold maxLen; decide)
  have e : (madeCells #[Value.int .u8 0] 8).toList = bs (List.replicate 8 0) := by kernel_rfl
  rw [e] at this
  exact this
theorem make8 (W : World) : Sem.run Tryz.prog (Instr.makeSlice 224 (.int .i64 8) (.int .i64 8)) W = .ok (.slice (some ⟨W.heap.size, 0, none⟩) 8 8) (W.alloc (.cells (madeCells #[.int .u8 0] 8) 5)) := by
  obtain ⟨i0, hi, hz0, hz1, hz2⟩ := info_parts info_u
  have hr := run_make (P := Tryz.prog) W 224 5 i0 (.int .u8 0) Tryz.underlying224 hi hz0 .i64 .i64 (8 : Int) (8 : Int) (by omega) (Int.le_refl _) (by rw [hz2]; omega) (by omega)
  rw [hz1] at hr
  exact hr
theorem pack3 (W : World) (H : Nat) (hH : H = W.heap.size) (v1 v2 v3 : Value) (z1 z2 z3 : List Int) (h1 : By W v1 z1) (h2 : By W v2 z2) (h3 : By W v3 z3) (hl : z1.length + (z2.length + z3.length) ≤ 140737488355328) :
    Calls Tryz.prog 143 #[.slice (some ⟨H, 0, none⟩) 3 3] (W.alloc (.cells #[v1, v2, v3] 224)) fun e w' => ∃ v, e = .returned v ∧ Own (W.alloc (.cells #[v1, v2, v3] 224)) w' [rowU v (z1 ++ (z2 ++ (z3 ++ [])))] := by
  have := pack_any (some ⟨H, 0, none⟩) 3 [(v1, z1), (v2, z2), (v3, z3)] _ (parts_list W 224 [(v1, z1), (v2, z2), (v3, z3)] (three_by h1 h2 h3) H hH) (by simp [maxLen]) (by rw [allOf_three]; simp; omega)
  rw [allOf_three] at this
  exact this
theorem pack2 (W : World) (H : Nat) (hH : H = W.heap.size) (v1 v2 : Value) (z1 z2 : List Int) (h1 : By W v1 z1) (h2 : By W v2 z2) (hl : z1.length + z2.length ≤ 140737488355328) :
    Calls Tryz.prog 143 #[.slice (some ⟨H, 0, none⟩) 2 2] (W.alloc (.cells #[v1, v2] 224)) fun e w' => ∃ v, e = .returned v ∧ Own (W.alloc (.cells #[v1, v2] 224)) w' [rowU v (z1 ++ (z2 ++ []))] := by
  have := pack_any (some ⟨H, 0, none⟩) 2 [(v1, z1), (v2, z2)] _ (parts_list W 224 [(v1, z1), (v2, z2)] (two_by h1 h2) H hH) (by simp [maxLen]) (by rw [allOf_two]; simp; omega)
  rw [allOf_two] at this
  simpa using this
theorem recB_eq (b : List Int) : le4 (crcI b) ++ (List.replicate 8 0 ++ (sizedL b ++ [])) = recB b := by rw [List.append_nil]; rfl
theorem zeros8_byts : Byts (List.replicate 8 0) := zeros_byts 8
def rowSecs (v : Value) (ss : List (List Int)) : Rw := ⟨150, 64, v, ss.length, (ss.map bs).flatten⟩
theorem Pc.strip {L : List Rw} {x : Rw} {v : Value} {zs : List Int} (h : Pc (x :: L) v zs) (hx : x.size ≠ 1) : Pc L v zs := by
  obtain ⟨a, c, hv, h1, h2, hz, h3⟩ := h
  refine ⟨a, c, hv, h1, h2, hz, ?_⟩
  rcases h3 with h3 | ⟨g, o, ha, h3⟩
  · exact .inl h3
  · refine .inr ⟨g, o, ha, fun hne => ?_⟩
    obtain ⟨cap, ys, hm, h4⟩ := h3 hne
    rcases List.mem_cons.1 hm with e | hm
    · exact absurd (by rw [← e]; rfl) hx
    · exact ⟨cap, ys, hm, h4⟩
theorem zSec_bs : zSec = bs (List.replicate 64 0) := rfl
theorem wpList_make_sec {ops : Array Oper} {rest : List Oper} {op : Oper} {a : Act} {w : World} {Q : Exit → Act → World → Prop} (hgd : op.guard = none) (x y : Operand) (ho : op.op = .makeSlice 104 x y) (n : Nat) (hx : a.eval x = .int .i64 (n : Int)) (hy : a.eval y = .int .i64 (n : Int)) (hn : n ≤ 4096)
    (h : wpList Tryz.prog ops Q rest (a.put op.dst (.slice (some ⟨w.heap.size, 0, none⟩) n n)) (w.alloc (.cells (madeCells zSec.toArray (n * 64)) 150))) : wpList Tryz.prog ops Q (op :: rest) a w := by
  refine wpList_plain hgd fun K hK => ?_
  obtain ⟨i0, hi, hz0, hz1, hz2⟩ := info_parts info_s
  have hr := run_make (P := Tryz.prog) w 104 150 i0 (.agg zSec.toArray) Tryz.underlying104 hi hz0 .i64 .i64 (n : Int) (n : Int) (by omega) (Int.le_refl _) (by rw [hz2]; omega) (by omega)
  rw [hz1] at hr
  unfold Oper.wp execOp
  simp only [ho, hx, hy, Sem.run_bind, hr, Result.andThen_ok, Sem.run_pure]
  exact hK _ _ h
theorem Own.madeSecs {W0 : Base} {w : World} {L : List Rw} (h : Own W0 w L) (n : Nat) (hn : n ≤ 4096) : Own W0 (w.alloc (.cells (madeCells zSec.toArray (n * 64)) 150)) (rowSecs (.slice (some ⟨w.heap.size, 0, none⟩) n n) (List.replicate n (List.replicate 64 0)) :: L) := by
  have h2 := h.made 150 64 (madeCells zSec.toArray (n * 64)) n (size_madeCells _ _) (by unfold maxLen; omega)
  rw [made_flat] at h2
  unfold rowSecs
  rw [List.length_replicate, List.map_replicate]
  exact h2
def laySecs (b : List Int) (i : Nat) : List (List Int) := (layB b).take i ++ List.replicate (roomM b.length - i) (List.replicate 64 0)
theorem laySecs_length (b : List Int) (i : Nat) (hi : i ≤ roomM b.length) : (laySecs b i).length = roomM b.length := by
  unfold laySecs
  rw [List.length_append, List.length_take, layB_length, List.length_replicate]; omega
theorem laySecs_all (b : List Int) : laySecs b (roomM b.length) = layB b := by
  unfold laySecs
  rw [Nat.sub_self, List.replicate_zero, List.append_nil, List.take_of_length_le (by rw [layB_length]; exact Nat.le_refl _)]
theorem laySecs_64 (b : List Int) (i : Nat) : ∀ s ∈ (laySecs b i).map bs, s.length = 64 := by
  intro s hs
  obtain ⟨l, hl, rfl⟩ := List.mem_map.1 hs
  rw [bs_length]
  rcases List.mem_append.1 hl with h1 | h1
  · obtain ⟨k, _, rfl⟩ := List.mem_map.1 (List.mem_of_mem_take h1)
    exact cutB_length _ _
  · rw [(List.mem_replicate.1 h1).2, List.length_replicate]
theorem laySecs_get (b : List Int) (i : Nat) (hi : i < roomM b.length) : (laySecs b i)[i]? = some (List.replicate 64 0) := by
  unfold laySecs
  rw [List.getElem?_append_right (by rw [List.length_take, layB_length]; omega), List.length_take, layB_length, Nat.min_eq_left (by omega), Nat.sub_self, List.getElem?_replicate, if_pos (by omega)]
theorem laySecs_set (b : List Int) (i : Nat) (hi : i < roomM b.length) : (laySecs b i).set i (cutB (recB b) i) = laySecs b (i + 1) := by
  unfold laySecs
  have hl : ((layB b).take i).length = i := by rw [List.length_take, layB_length]; omega
  have hr : roomM b.length - i = (roomM b.length - (i + 1)) + 1 := by omega
  rw [hr, List.replicate_succ, List.set_append_right _ _ (by omega), hl, Nat.sub_self, List.set_cons_zero, List.take_succ_eq_append_getElem (by rw [layB_length]; exact hi), List.append_assoc, List.singleton_append]
  simp [layB]
theorem lay_fill {W0 : Base} {w : World} {g n cap : Nat} {b : List Int} {i k : Nat} {L : List Rw} (hi : i < roomM b.length) (hk : k = min ((recB b).drop (i * 63)).length 63)
    (h : Own W0 w (⟨150, 64, .slice (some ⟨g, 0, none⟩) n cap, n, splice ((laySecs b i).map bs).flatten (i * 64) (bs (((recB b).drop (i * 63)).take k))⟩ :: L)) : Own W0 w (⟨150, 64, .slice (some ⟨g, 0, none⟩) n cap, n, ((laySecs b (i + 1)).map bs).flatten⟩ :: L) := by
  have hl := laySecs_length b i (by omega)
  have ht : ((recB b).drop (i * 63)).take k = ((recB b).drop (i * 63)).take 63 := by
    rw [hk]
    by_cases hc : ((recB b).drop (i * 63)).length ≤ 63
    · rw [Nat.min_eq_left hc, List.take_of_length_le (Nat.le_refl _), List.take_of_length_le hc]
    · rw [Nat.min_eq_right (by omega)]
  rw [ht] at h
  have hlt : i < ((laySecs b i).map bs).length := by rw [List.length_map, hl]; exact hi
  rw [flat_fill 64 (by decide) _ (laySecs_64 b i) i hlt _ (by rw [bs_length, List.length_take]; omega)] at h
  have hg : ((laySecs b i).map bs)[i] = bs (List.replicate 64 0) := by
    have := laySecs_get b i hi
    have h2 : ((laySecs b i).map bs)[i]? = some (bs (List.replicate 64 0)) := by rw [List.getElem?_map, this]; rfl
    rw [List.getElem?_eq_getElem hlt] at h2
    injection h2
  have he : ((laySecs b i).map bs).set i (bs (((recB b).drop (i * 63)).take 63) ++ (((laySecs b i).map bs)[i]).drop (bs (((recB b).drop (i * 63)).take 63)).length) = (laySecs b (i + 1)).map bs := by
    rw [hg, ← laySecs_set b i hi, List.map_set]
    congr 1
    unfold cutB padTo
    rw [bs_append, bs_length]
    congr 1
    show List.drop _ (List.map _ (List.replicate 64 0)) = List.map _ (List.replicate _ 0)
    rw [List.map_replicate, List.map_replicate, List.drop_replicate]
  rw [he] at h
  exact h
attribute [local go_sem ↓] Go.wp_at_zero Go.wp_at_succ
set_option maxHeartbeats 3200000 in
set_option maxRecDepth 100000 in
theorem lay_bytes (v : Value) (b : List Int) (w : World) (hb : By w v b) (hl : b.length ≤ 4096) :
    Calls Tryz.prog 102 #[v] w fun e w' => ∃ lv, e = .returned lv ∧ Own w w' [rowSecs lv (layB b)] := by
  have Hb := Lib.hid hb
  have hz := hb.2.1
  have Hz := Lib.hid hz
  obtain ⟨a0, c0, rfl, hc1, hc2⟩ := hb.2.2
  have Hc1 := Lib.hid hc1
  have hlt4 : b.length < 4294967296 := by omega
  have hcb := crcI_bounds b
  have hwr : IntKind.i64.wrap (crcI b) = crcI b := IntWalk.i64_in _ (by omega)
  have Hr := Lib.hid (recB_byts b hz hl)
  clear hb hz hc1 hc2
  go_enter Tryz.func102, Tryz.ntmps102
  go_upto_region 1 with (fail)
  go_cut [3] (fun s wc => Own w wc [rowU s (recB b)])
  case first =>
    have hmk := make8
    have Hc4 := Lib.hid (le4_byts _ hcb.1 hcb.2)
    have Hs4 := Lib.hid (sizedL_byts b Hz.out hlt4)
    go_region_with (first
      | (go_at_call 145; refine (sum_one _ _ (.slice a0 b.length c0) b _ ?_ ?_).mono ?_; (repeat (first | exact cell_made _ _ _ _ (by simp) | refine cell_drew ?_ | refine cell_alloc ?_ _)); (repeat (first | exact Hb.out | refine By.drew ?_ | refine By.alloc ?_ _)); rintro e w' ⟨rfl, rfl⟩)
      | (go_at_call 144; refine (num_any (crcI b) _ hcb.1 hcb.2).mono ?_; rintro e w3 ⟨v3, rfl, hO3⟩; obtain ⟨a3, k3, d3, rfl⟩ := hO3.form3; (first | have HO3 := Lib.hid ((((Own.start w).zeros).alloc _).drew.join hO3) | have HO3 := Lib.hid ((((Own.start w).alloc _).zeros).drew.join hO3) | have HO3 := Lib.hid (((Own.start w).alloc _).drew.join hO3)); have HB3 := Lib.hid (Hb.out.later HO3.out.below); clear hO3)
      | (go_at_call 146; refine (raw_any (.slice a0 b.length c0) b _ ?_ hlt4).mono ?_; (repeat (first | exact HB3.out | refine By.drew ?_ | refine By.alloc ?_ _)); rintro e w4 ⟨v4, rfl, hO4⟩; obtain ⟨a4, k4, d4, rfl⟩ := hO4.form3; (first | have HO4 := Lib.hid (HO3.out.join hO4) | have HO4 := Lib.hid ((HO3.out.zeros).join hO4)); clear hO4)
      | (go_at_call 143; refine (pack3 _ _ ?_ _ _ _ (le4 (crcI b)) (List.replicate 8 0) (sizedL b) ?_ ?_ ?_ ?_).mono ?_; (first | rfl | simp); (first | exact (HO4.out.only (by simp)).by Hc4.out | exact (HO4.out.zeros.only (by simp)).by Hc4.out); (first | exact (HO4.out.only (by simp)).by zeros8_byts | exact (HO4.out.zeros.only (by simp)).by zeros8_byts); (first | exact (HO4.out.only (by simp)).by Hs4.out | exact (HO4.out.zeros.only (by simp)).by Hs4.out); (rw [sizedL_length]; simp [le4]; omega); rintro e w5 ⟨v5, rfl, hO5⟩; rw [recB_eq] at hO5; (first | have HO5 := Lib.hid (((HO4.out.alloc _).join hO5).only (List.mem_append_left _ (List.mem_cons_self ..))) | have HO5 := Lib.hid (((HO4.out.zeros.alloc _).join hO5).only (List.mem_append_left _ (List.mem_cons_self ..)))); clear hO5))
    all_goals (go_wp2_with fail; go_meet; exact HO5.out)
  case rest =>
    have hO := hcut
    clear hcut
    obtain ⟨a3, k3, c3, rfl⟩ := hO.form3
    have HO := Lib.hid hO
    have HP := Lib.hid (Pc.all hO Hr.out)
    clear hO hwr hcb hlt4
    have hn4 : roomM b.length ≤ 4096 := by unfold roomM; omega
    have hnb : b.length ≤ 140737488355328 := by omega
    go_wp2_with (first
      | (go_at_call 123; refine (room_any b.length _ hnb).mono ?_; rintro e w' ⟨rfl, rfl⟩)
      | (refine wpList_make_sec rfl (.tmp 18) (.tmp 18) rfl (roomM b.length) rfl rfl hn4 ?_))
    have HS := Lib.hid ((HO.out.madeSecs (roomM b.length) hn4))
    have HP2 := Lib.hid (HP.out.cons (rowSecs (.slice (some ⟨wc.heap.size, 0, none⟩) (roomM b.length) (roomM b.length)) (List.replicate (roomM b.length) (List.replicate 64 0))))
    generalize wc.alloc (.cells (madeCells zSec.toArray (roomM b.length * 64)) 150) = w6 at *
    generalize wc.heap.size = g at *
    have hrl := recB_length b
    have hrm : roomM b.length * 63 ≤ b.length + 78 ∧ b.length + 16 ≤ roomM b.length * 63 := by unfold roomM; omega
    have Hrl := Lib.hid hrl
    obtain ⟨n, hn⟩ : ∃ n, roomM b.length = n := ⟨_, rfl⟩
    have Hn := Lib.hid hn
    rw [hn] at HS HP2 hrm hn4 ⊢
    obtain ⟨h63, h16⟩ := hrm
    clear hrl hn HP HO
    go_loopw [3, 23] (fun s t wr => ∃ (i : Nat), i ≤ n ∧ t = .int .i64 i ∧ Pc [rowU (.slice a3 k3 c3) (recB b)] s ((recB b).drop (i * 63)) ∧ Own w wr [⟨150, 64, .slice (some ⟨g, 0, none⟩) n n, n, ((laySecs b i).map bs).flatten⟩, rowU (.slice a3 k3 c3) (recB b)]) (fun _ t _ => n - (intOf t).toNat)
    case atStart =>
      refine ⟨0, Nat.zero_le _, rfl, ?_, ?_⟩
      · have := HP2.out.strip (by decide : (64 : Nat) ≠ 1)
        simpa using this
      · have h1 := HS.out
        unfold rowSecs at h1
        rw [List.length_replicate] at h1
        unfold laySecs
        rw [List.take_zero, List.nil_append, Nat.sub_zero, Hn.out]
        exact h1
    case round =>
      obtain ⟨i, hi, rfl, hp, hO⟩ := hrel
      by_cases hlt : i < n
      · have hb := (hp.cons ⟨150, 64, .slice (some ⟨g, 0, none⟩) n n, n, ((laySecs b i).map bs).flatten⟩).by hO
        have hne : 0 < ((recB b).drop (i * 63)).length := by rw [List.length_drop, Hrl.out]; omega
        have Hb2 := Lib.hid hb
        have Hp := Lib.hid hp
        have HO := Lib.hid hO
        obtain ⟨g2, o2, c2, rfl, hc1, hc2, hcl⟩ := hb.cells hne
        have hL2 : ((recB b).drop (i * 63)).drop (min ((recB b).drop (i * 63)).length 63) = (recB b).drop ((i + 1) * 63) := by
          by_cases hc : ((recB b).drop (i * 63)).length ≤ 63
          · rw [Nat.min_eq_left hc, List.drop_of_length_le (Nat.le_refl _), List.drop_of_length_le]
            rw [List.length_drop] at hc
            omega
          · rw [Nat.min_eq_right (by omega), List.drop_drop]
            congr 1
            omega
        obtain ⟨m, hm⟩ : ∃ m, ((recB b).drop (i * 63)).length = m := ⟨_, rfl⟩
        obtain ⟨k, hk⟩ : ∃ k, min m 63 = k := ⟨_, rfl⟩
        have HL2 := Lib.hid hL2
        have Hm := Lib.hid hm
        have Hk := Lib.hid hk
        have hkm : k ≤ m := by omega
        have hcm : m ≤ c2 := by omega
        unfold maxLen at hc2
        have hi0 : (0 : Int) ≤ (i : Int) := by omega
        have hi1 : (i : Int) < (n : Int) := by omega
        have hfit : i * 64 + k ≤ n * 64 := by omega
        have hkm' : k = min ((recB b).drop (i * 63)).length 63 := by rw [Hm.out]; omega
        have Hkm := Lib.hid hkm'
        rw [hm] at Hb2 Hp hne ⊢
        clear hb hp hO hL2 hm hk hkm' hc1 hcl HS HP2
        by_cases hck : c2 = k
        · subst hck
          obtain rfl : m = c2 := by omega
          go_wp2_with (refine wpList_copy_into rfl (.tmp 30) (.tmp 31) 38 rfl (i * 64) 63 64 _ ((recB b).drop (i * 63)) rfl rfl HO.out 5 Tryz.underlying38 size_u Hb2.out m Hkm.out hfit ?_)
          intro w7 hO7
          rw [← List.map_drop, ← List.map_take] at hO7
          have HO7 := Lib.hid (lay_fill (by rw [Hn.out]; exact hlt) Hkm.out hO7)
          have HP7 := Lib.hid (show Pc [rowU (.slice a3 k3 c3) (recB b)] (.slice (some ⟨g2, o2, none⟩) 0 0) ((recB b).drop ((i + 1) * 63)) by
            rw [← HL2.out, Hm.out, Hk.out, List.drop_of_length_le (by rw [Hm.out]; exact Nat.le_refl _)]
            exact Pc.empty _ _ _ _ (Nat.zero_le _))
          clear hO7
          go_wp2_with fail
          exact ⟨⟨i + 1, by omega, by go_num, HP7.out, HO7.out⟩, by simp [intOf]; omega⟩
        · go_wp2_with (refine wpList_copy_into rfl (.tmp 30) (.tmp 31) 38 rfl (i * 64) 63 64 _ ((recB b).drop (i * 63)) rfl rfl HO.out 5 Tryz.underlying38 size_u Hb2.out k Hkm.out hfit ?_)
          intro w7 hO7
          rw [← List.map_drop, ← List.map_take] at hO7
          have HO7 := Lib.hid (lay_fill (by rw [Hn.out]; exact hlt) Hkm.out hO7)
          have HP7 := Lib.hid (show Pc [rowU (.slice a3 k3 c3) (recB b)] (.slice (some ⟨g2, o2 + k, none⟩) (m - k) (c2 - k)) ((recB b).drop ((i + 1) * 63)) by
            rw [← HL2.out, Hm.out, Hk.out]
            have h1 := Hp.out
            rw [← Hm.out] at h1
            exact h1.rest k (m - k) (by rw [Hm.out]; exact hkm) (by rw [Hm.out]))
          clear hO7
          go_wp2_with fail
          exact ⟨⟨i + 1, by omega, by go_num, HP7.out, HO7.out⟩, by simp [intOf]; omega⟩
      · obtain rfl : i = n := by omega
        have HF := Lib.hid (show Own w wr [rowSecs (.slice (some ⟨g, 0, none⟩) i i) (layB b)] by
          have h1 := hO.of_mem (List.sublist_append_left [_] [rowU (.slice a3 k3 c3) (recB b)])
          rw [← Hn.out, laySecs_all] at h1
          unfold rowSecs
          rw [layB_length, ← Hn.out]
          exact h1)
        clear hO hp HS HP2
        go_wp2_with fail
        go_ret
        exact ⟨_, rfl, HF.out⟩
end Go.Proofs.YtkhnkidggcjfeaaGreatDoor
end
section
namespace Go.Proofs.YtkhnkidggcjfeaaGreatDoor
open Go.RowKit
theorem ret_cell {P : Program} {fn : Func} {p : Tmp} {ty : TypeId} (h : fn.results = #[.cell p ty]) {tmps : Array Value} {w : World} {b : Nat} {cs : List Value} {d : TypeDesc} (hp : tmps.getD p undef = .pointer (some ⟨b, 0, none⟩))
    (hr : w.rangeAt b 0 cs) (ht : P.underlying ty = some d) (hd : d.isRow = true) (hi : (P.info? ty).map (·.size) = some cs.length) : (results fn tmps).run P w = .ok (.agg cs.toArray) w := by
  have e : (asAddr (.pointer (some ⟨b, 0, none⟩))).run P w = .ok ⟨b, 0, none⟩ w := rfl
  have hp' : tmps[p]?.getD undef = .pointer (some ⟨b, 0, none⟩) := by simpa using hp
  simp only [results, h]
  simp [Sem.run_bind, Result.andThen, hp', e, run_loadVar_mid w b 0 ty cs d hr ht hd hi]
def rowSec (g : Nat) (s : List Value) : Rw := ⟨150, 64, .slice (some ⟨g, 0, none⟩) 1 1, 1, s⟩
def rowRoot (g : Nat) (a b : Int) : Rw := ⟨154, 2, .slice (some ⟨g, 0, none⟩) 1 1, 1, [.int .i64 a, .int .i64 b]⟩
theorem root_cells {W0 : Base} {w : World} {g : Nat} {a b : Int} {L : List Rw} (h : Own W0 w L) (hm : rowRoot g a b ∈ L) : w.cell? ⟨g, 0, none⟩ = some (.int .i64 a) ∧ w.cell? ⟨g, 1, none⟩ = some (.int .i64 b) := by
  have h1 := h.only hm
  exact ⟨Own.cell (h := h1) 0 (by decide), Own.cell (h := h1) 1 (by decide)⟩
theorem sec_cells {W0 : Base} {w : World} {g : Nat} {s : List Value} {L : List Rw} (h : Own W0 w L) (hm : rowSec g s ∈ L) (hs : s.length = 64) : w.rangeAt g 0 s ∧ w.there g 0 64 := by
  have h1 := h.only hm
  refine ⟨?_, Own.there (h := h1) 0 64 (by decide)⟩
  have := Own.range (h := h1) 0 64
  rw [List.drop_zero, ← hs, List.take_length] at this
  exact this
theorem Own.root {W0 : Base} {w : World} {L : List Rw} (h : Own W0 w L) (a b : Int) : Own W0 (w.alloc (.cells #[.int .i64 a, .int .i64 b] 154)) (rowRoot w.heap.size a b :: L) :=
  h.made 154 2 #[.int .i64 a, .int .i64 b] 1 rfl (by unfold maxLen; decide)
theorem Own.sec {W0 : Base} {w : World} {L : List Rw} (h : Own W0 w L) (s : List Value) (hs : s.length = 64) (H : Nat) (hH : H = w.heap.size) : Own W0 (w.alloc (.cells s.toArray 150)) (rowSec H s :: L) := by
  subst hH
  have := h.made 150 64 s.toArray 1 (by simp [hs]) (by unfold maxLen; decide)
  unfold rowSec
  rw [← hs]
  simpa [hs] using this
theorem le4_length (n : Int) : (le4 n).length = 4 := rfl
theorem rootB_fill (side used : Nat) : splice zSec 0 (bs ((rootR side used).take 27)) = bs (rootB side used) := by
  have h := flat_fill 64 (by decide) [zSec] (fun s hs => by rw [List.mem_singleton.1 hs]; rfl) 0 (by simp) (bs ((rootR side used).take 27)) (by rw [bs_length, List.length_take]; omega)
  simp only [List.flatten_cons, List.flatten_nil, List.append_nil, Nat.zero_mul, List.set_cons_zero, List.getElem_cons_zero] at h
  rw [h]
  have hl := rootR_length side used
  have ht : (rootR side used).take 27 = rootR side used := List.take_of_length_le (by omega)
  rw [ht]
  unfold rootB padTo
  rw [bs_append, bs_length, hl, zSec_bs]
  congr 1
theorem zero_root (w : World) : Sem.run Tryz.prog (zeroValue 154) w = .ok (.agg #[.int .i64 0, .int .i64 0]) w := by kernel_rfl
theorem info_root : (Tryz.prog.info? 154).map (·.size) = some 2 := by kernel_rfl
attribute [local go_sem ↓] Go.wp_at_zero Go.wp_at_succ
set_option maxHeartbeats 3200000 in
set_option maxRecDepth 100000 in
theorem sector_any (side used : Nat) (w : World) (hs : side ≤ 1) (hu : used ≤ 4096) :
    Calls Tryz.prog 121 #[.agg #[.int .i64 side, .int .i64 used]] w fun e w' => e = .returned (.agg (bs (rootB side used)).toArray) ∧ Below w.heap.size w w' := by
  have hzs := zero_sector
  have hO := (((Own.start w).root side used).sec zSec rfl (w.heap.size + 1) (by simp)).sec zSec rfl (w.heap.size + 1 + 1) (by simp)
  have HO := Lib.hid hO
  have Hm := Lib.hid (sizedL_byts (sb markS) (sb_byts _) (by rw [sb_length]; decide))
  have Hs := Lib.hid (le4_byts (side : Int) (by omega) (by omega))
  have Hu := Lib.hid (le4_byts (used : Int) (by omega) (by omega))
  have Hh := Lib.hid (rootH_byts side used hs hu)
  have hhl := rootH_length side used
  have Hhl := Lib.hid hhl
  have Hr := Lib.hid (rootR_byts side used hs hu)
  have hs4 : (side : Int) < 4294967296 := by omega
  have hu4 : (used : Int) < 4294967296 := by omega
  have hs0 : (0 : Int) ≤ (side : Int) := by omega
  have hu0 : (0 : Int) ≤ (used : Int) := by omega
  clear hO hhl
  go_enter Tryz.func121, Tryz.ntmps121
  go_wp2_with fail
  generalize ((w.alloc (.cells #[.int .i64 (side : Int), .int .i64 (used : Int)] 154)).alloc (.cells zSec.toArray 150)).alloc (.cells zSec.toArray 150) = w0 at *
  generalize w.heap.size = H at *
  obtain ⟨b0, b1⟩ := root_cells HO.out (g := H) (a := side) (b := used) (by simp)
  go_cut [4] (fun s wc => Own w wc [rowU s (rootH side used), rowSec (H + 1 + 1) zSec, rowSec (H + 1) zSec])
  case first =>
    have hlm : markS.size < 4294967296 := by decide
    go_region_with (first
      | (go_at_call 150; refine (text_any markS _ hlm).mono ?_; rintro e w3 ⟨v3, rfl, hO3⟩; obtain ⟨a3, k3, d3, rfl⟩ := hO3.form3; (first | have HO3 := Lib.hid (HO.out.join hO3) | have HO3 := Lib.hid (HO.out.drew.join hO3)); obtain ⟨c0, c1⟩ := root_cells HO3.out (g := H) (a := side) (b := used) (by simp); clear hO3)
      | (go_at_call_of 144 (Value.int .i64 (side : Int)); refine (num_any (side : Int) _ hs0 hs4).mono ?_; rintro e w4 ⟨v4, rfl, hO4⟩; obtain ⟨a4, k4, d4, rfl⟩ := hO4.form3; (first | have HO4 := Lib.hid (HO3.out.join hO4) | have HO4 := Lib.hid (HO3.out.drew.join hO4)); obtain ⟨e0, e1⟩ := root_cells HO4.out (g := H) (a := side) (b := used) (by simp); clear hO4)
      | (go_at_call_of 144 (Value.int .i64 (used : Int)); refine (num_any (used : Int) _ hu0 hu4).mono ?_; rintro e w5 ⟨v5, rfl, hO5⟩; obtain ⟨a5, k5, d5, rfl⟩ := hO5.form3; (first | have HO5 := Lib.hid (HO4.out.join hO5) | have HO5 := Lib.hid (HO4.out.drew.join hO5)); clear hO5)
      | (go_at_call 143; refine (pack3 _ _ ?_ _ _ _ (sizedL (sb markS)) (le4 side) (le4 used) ?_ ?_ ?_ ?_).mono ?_; (first | rfl | simp); exact (HO5.out.only (by simp)).by Hm.out; exact (HO5.out.only (by simp)).by Hs.out; exact (HO5.out.only (by simp)).by Hu.out; (rw [sizedL_length, sb_length, le4_length, le4_length]; decide); rintro e w6 ⟨v6, rfl, hO6⟩; have HO6 := Lib.hid ((HO5.out.alloc _).join hO6); clear hO6))
    all_goals (go_wp2_with fail; go_meet)
    all_goals exact HO6.out.of_mem (.cons_cons _ (.cons _ (.cons _ (.cons _ (.cons_cons _ (.cons_cons _ (.cons _ (List.Sublist.refl _))))))))
  case rest =>
    obtain ⟨a3, k3, c3, rfl⟩ := hcut.form3
    have HX := Lib.hid hcut
    have Hhy := Lib.hid ((hcut.only (List.mem_cons_self ..)).by Hh.out)
    clear hcut HO b0 b1
    have hcb := crcI_bounds (rootH side used)
    obtain ⟨hcb0, hcb1⟩ := hcb
    have Hcy := Lib.hid (le4_byts _ hcb0 hcb1)
    have hwr : IntKind.i64.wrap (crcI (rootH side used)) = crcI (rootH side used) := IntWalk.i64_in _ (by omega)
    have HR := Lib.hid (show rootH side used ++ (le4 (crcI (rootH side used)) ++ []) = rootR side used from rfl)
    have HL := Lib.hid (rootR_length side used)
    have HF := Lib.hid (rootB_fill side used)
    have Hl64 := Lib.hid (rootB_length side used)
    obtain ⟨RB, hRB⟩ : ∃ RB, rootB side used = RB := ⟨_, rfl⟩
    have HRB := Lib.hid hRB
    rw [hRB] at HF Hl64
    clear hRB
    generalize rootR side used = RR at *
    generalize rootH side used = RH at *
    obtain ⟨cr, hcr⟩ : ∃ cr, crcI RH = cr := ⟨_, rfl⟩
    have HC := Lib.hid hcr
    rw [hcr] at hwr hcb0 hcb1 Hcy HR
    clear hcr
    go_upto_region 3 with (fail)
    go_cut [] (fun wc => Own w wc [rowSec (H + 1 + 1) (bs RB), rowSec (H + 1) zSec])
    case first =>
      go_region_held3 (fun _ => True) (exact trivial) (first
        | (go_at_call 145; refine (sum_one _ _ (.slice a3 k3 c3) RH _ ?_ ?_).mono ?_; (repeat (first | exact cell_made _ _ _ _ (by simp) | refine cell_drew ?_ | refine cell_alloc ?_ _)); (repeat (first | exact Hhy.out | refine By.drew ?_ | refine By.alloc ?_ _)); rintro e w' ⟨rfl, rfl⟩; rw [HC.out])
        | (go_at_call 144; refine (num_any cr _ hcb0 hcb1).mono ?_; rintro e w4 ⟨v4, rfl, hO4⟩; obtain ⟨a4, k4, d4, rfl⟩ := hO4.form3; (first | have HO4 := Lib.hid ((HX.out.alloc _).drew.join hO4) | have HO4 := Lib.hid ((HX.out.drew.alloc _).join hO4) | have HO4 := Lib.hid ((HX.out.alloc _).join hO4)); clear hO4)
        | (go_at_call 143; refine (pack2 _ _ ?_ _ _ RH (le4 cr) ?_ ?_ ?_).mono ?_; (first | rfl | simp); exact (HO4.out.only (by simp)).by Hh.out; exact (HO4.out.only (by simp)).by Hcy.out; (rw [Hhl.out, le4_length]; decide); rintro e w5 ⟨v5, rfl, hO5⟩; rw [HR.out] at hO5; have HY := Lib.hid (hO5.by Hr.out); have HO5 := Lib.hid (((HO4.out.alloc _).join hO5).of_mem (.cons _ (.cons _ (.cons _ (List.Sublist.refl _))))); clear hO5)
        | (refine step_copy_into (by rfl) (.tmp 14) (.tmp 22) 38 (by rfl) 0 64 64 _ RR (by rfl) (by rfl) HO5.out 5 Tryz.underlying38 size_u HY.out 27 (by rw [HL.out]; rfl) (by decide) ?_; intro w6 hO6))
      all_goals (first | rw [HF.out] at hO6 | rw [← List.map_take, HF.out] at hO6)
      all_goals have HO6 := Lib.hid hO6
      all_goals clear hO6
      all_goals (go_wp2_with fail; go_meet; exact HO6.out.of_mem (.cons_cons _ (.cons_cons _ (List.nil_sublist _))))
    case rest =>
      have HO7 := Lib.hid hcut
      have hlb : (bs RB).length = 64 := by rw [bs_length]; exact Hl64.out
      obtain ⟨r1, _⟩ := sec_cells hcut (g := H + 1 + 1) (s := bs RB) (by simp) hlb
      obtain ⟨_, t2⟩ := sec_cells hcut (g := H + 1) (s := zSec) (by simp) rfl
      have hO8 := Own.setCells (h := hcut.swap) (bs RB) 0
      have hr8 : (wc.setCells (H + 1) 0 (bs RB)).rangeAt (H + 1) 0 (bs RB) := World.rangeAt_setCells_same _ _ _ _ (by rw [hlb]; exact t2)
      have his : (Tryz.prog.info? 150).map (·.size) = some (bs RB).length := by rw [hlb]; exact info_sector
      have HB8 := Lib.hid hO8.below
      have h1c := bs_one RB
      have Hlb := Lib.hid hlb
      clear hcut hO8 hlb
      obtain ⟨cs, hcs⟩ : ∃ cs, bs RB = cs := ⟨_, rfl⟩
      have HCS := Lib.hid hcs
      rw [hcs] at r1 hr8 his HB8 h1c Hlb
      clear hcs HO7
      have ht9 : wc.there (H + 1) 0 cs.toArray.size := by simpa [Hlb.out] using t2
      have hi9 : (Tryz.prog.info? 150).map (·.size) = some cs.toArray.size := by simpa using his
      go_wp2_with (first
        | (refine wpList_load_mid rfl 150 (.tmp 3) rfl (H + 1 + 1) 0 rfl cs _ r1 Tryz.underlying150 rfl his ?_)
        | (refine wpList_store_mid rfl 150 (.tmp 2) (.tmp 24) rfl (H + 1) 0 cs.toArray rfl rfl ht9 hi9 (all_oneCell_toArray h1c) ?_))
      refine bodyPost_ret (v := .agg cs.toArray) (ret_cell Tryz.results121 rfl hr8 Tryz.underlying150 rfl his) rfl ?_
      exact ⟨by rw [HRB.out, HCS.out], HB8.out⟩
end Go.Proofs.YtkhnkidggcjfeaaGreatDoor
end
section
namespace Go.Proofs.YtkhnkidggcjfeaaGreatDoor
open Go.RowKit
theorem log_cells_mem {W0 : Base} {w : World} {l d : Nat} {D : Dk} {side used : Nat} {lv : Value} {dead : Bool} {L : List Rw} (h : DkAt W0 w d D L) (hm : rowLog l d side used lv dead ∈ L) :
    w.cell? ⟨l, 0, none⟩ = some (.pointer (some ⟨d, 0, none⟩)) ∧ w.cell? ⟨l, 1, none⟩ = some (.int .i64 side) ∧ w.cell? ⟨l, 2, none⟩ = some (.int .i64 used) ∧ w.cell? ⟨l, 3, none⟩ = some lv ∧ w.cell? ⟨l, 4, none⟩ = some (.bool dead) := by
  have h1 := h.own.only hm
  exact ⟨Own.cell (h := h1) 0 (by decide), Own.cell (h := h1) 1 (by decide), Own.cell (h := h1) 2 (by decide), Own.cell (h := h1) 3 (by decide), Own.cell (h := h1) 4 (by decide)⟩
theorem writeM_bounds (D : Dk) (x : Int) (s : List Value) : (writeM D x s).1.steps ≤ D.steps + 1 ∧ (writeM D x s).1.since.length ≤ D.since.length + 1 ∧ (writeM D x s).1.last.length = D.last.length := by
  unfold writeM
  split
  · exact ⟨by show D.steps ≤ _; omega, by show D.since.length ≤ _; omega, rfl⟩
  · have h1 := stepM_bounds (putM D x.toNat s)
    have hl : (stepM (putM D x.toNat s)).1.last.length = (putM D x.toNat s).last.length := by
      unfold stepM
      split
      · rfl
      · simp only
        split
        · rfl
        · exact lastTo_length _ _ _
    refine ⟨?_, ?_, ?_⟩
    · rw [h1.1]; show D.steps + 1 ≤ _; omega
    · refine Nat.le_trans h1.2.1 ?_
      show (D.since ++ [_]).length ≤ _
      simp
    · rw [hl]; show (D.last.set _ _).length = _; rw [List.length_set]
theorem writesM_cons (D : Dk) (q : Nat) (s : List Value) (r : List (List Value)) : writesM D q (s :: r) = if (writeM D (q : Int) s).2 ≠ 0 then writeM D (q : Int) s else writesM (writeM D (q : Int) s).1 (q + 1) r := rfl
def SecsIn (L : List Rw) (a : Option Addr) (ws : List (List Value)) : Prop := 0 < ws.length → ∃ g cp, a = some ⟨g, 0, none⟩ ∧ (⟨150, 64, .slice (some ⟨g, 0, none⟩) ws.length cp, ws.length, ws.flatten⟩ : Rw) ∈ L
theorem SecsIn.mono {L L' : List Rw} {a : Option Addr} {ws : List (List Value)} (h : SecsIn L a ws) (hs : ∀ r ∈ L, r ∈ L') : SecsIn L' a ws := fun hp => by
  obtain ⟨g, cp, h1, h2⟩ := h hp
  exact ⟨g, cp, h1, hs _ h2⟩
set_option maxHeartbeats 3200000 in
set_option maxRecDepth 100000 in
theorem write_dk {W0 : Base} {w : World} {l d : Nat} {D : Dk} {side used : Nat} {lv : Value} {dead : Bool} {L : List Rw} (h : DkAt W0 w d D L) (hm : rowLog l d side used lv dead ∈ L) (at_ : Nat) (a : Option Addr) (c : Nat) (ws : List (List Value))
    (hL : SecsIn L a ws) (hsec : ∀ s ∈ ws, isSec s) (hat : at_ ≤ 100000) (hn : ws.length ≤ 10000) (hst : D.steps ≤ 4611686018427387904) (hsi : D.since.length ≤ 900000) :
    Calls Tryz.prog 124 #[.pointer (some ⟨l, 0, none⟩), .int .i64 at_, .slice a ws.length c] w fun e w' => e = .returned (.int .i64 (writesM D at_ ws).2) ∧ DkAt W0 w' d (writesM D at_ ws).1 L := by
  have hzs := zero_sector
  have Hm := Lib.hid hm
  have HL := Lib.hid hL
  have Hsec := Lib.hid hsec
  have H0 := Lib.hid h
  have Hst := Lib.hid hst
  have Hsi := Lib.hid hsi
  clear h hm hL hsec hst hsi
  go_enter Tryz.func124, Tryz.ntmps124
  go_wp2_with fail
  go_loopw [12] (fun t wr => ∃ (i : Nat) (D' : Dk), i ≤ ws.length ∧ t = .int .i64 i ∧ DkAt W0 wr d D' L ∧ writesM D at_ ws = writesM D' (at_ + i) (ws.drop i) ∧ D'.steps ≤ D.steps + i ∧ D'.since.length ≤ D.since.length + i) (fun t _ => ws.length - (intOf t).toNat)
  case atStart => exact ⟨0, D, Nat.zero_le _, rfl, H0.out, by simp, by simp, by simp⟩
  case round =>
    obtain ⟨i, D1, hi, rfl, hA, hE, hs1, hs2⟩ := hrel
    by_cases hlt : i < ws.length
    · obtain ⟨g, cp, rfl, hrow⟩ := HL.out (by omega)
      have hs := Hsec.out _ (List.getElem_mem hlt)
      have hr := Own.range (h := hA.own.only hrow) (i * 64) 64
      rw [flat_take 64 ws (fun t ht => (Hsec.out t ht).1) i hlt] at hr
      have hdr : ws.drop i = ws[i] :: ws.drop (i + 1) := List.drop_eq_getElem_cons hlt
      rw [hdr] at hE
      have hb := writeM_bounds D1 ((at_ + i : Nat) : Int) ws[i]
      have hlt9 : D1.steps < 9223372036854775807 := by have := Hst.out; omega
      have hlt6 : D1.since.length < 1000000 := by have := Hsi.out; omega
      have Hb := Lib.hid hb
      have HE := Lib.hid hE
      have HA := Lib.hid hA
      have Hs1 := Lib.hid hs1
      have Hs2 := Lib.hid hs2
      have Hs := Lib.hid hs
      have hone := hs.2
      have his : (Tryz.prog.info? 150).map (·.size) = some ws[i].length := by rw [hs.1]; exact info_sector
      have hz64 : zSec.toArray.size = ws[i].length := by rw [hs.1]; rfl
      have Hz64 := Lib.hid hz64
      clear hb hE hA hs1 hs2 hrow hdr hs hz64
      generalize ws[i] = s at *
      go_wp2_with (first
        | (refine wpList_load_mid rfl 150 (.tmp 15) rfl g (i * 64) rfl s _ hr Tryz.underlying150 rfl his ?_)
        | (refine wpList_store_dk rfl 150 (.tmp 8) (.tmp 16) rfl HA.out s wr.heap.size rfl rfl rfl ?hz his hone ?_))
      case hz => exact Hz64.out
      intro w2 hA2
      have hlen := Hs.out.1
      have cr : w2.rangeAt wr.heap.size 0 s := by
        have := Own.range (h := hA2.own.only (List.mem_cons_self ..)) 0 s.length
        rw [List.drop_zero, List.take_length] at this
        exact this
      have hm2 : rowLog l d side used lv dead ∈ (⟨150, s.length, .slice (some ⟨wr.heap.size, 0, none⟩) 1 1, 1, s⟩ :: L : List Rw) := List.mem_cons_of_mem _ Hm.out
      obtain ⟨c0, _, _, _, _⟩ := log_cells_mem hA2 hm2
      have HA2 := Lib.hid hA2.drew
      obtain ⟨q, hq⟩ : ∃ q, at_ + i = q := ⟨_, rfl⟩
      have hw1 : IntKind.i64.wrap ((at_ : Int) + (i : Int)) = (q : Int) := by rw [IntWalk.i64_in _ (by omega)]; omega
      have Hq := Lib.hid hq
      rw [hq] at HE Hb
      clear hq
      clear hA2 hm2 HA
      generalize wr.heap.size = H at *
      go_wp2_with fail
      go_still_tail 8, (by kernel_rfl)
      repeat still_step
      refine wpStill_load_mid rfl 150 (.tmp 8) rfl H 0 rfl s _ cr Tryz.underlying150 rfl his ?_
      refine wpStill_nil ?_
      change wpList _ _ _ _ _ w2.drew
      clear hw1
      go_wp2_with fail
      refine (write_any W0 w2.drew d D1 _ (q : Int) s HA2.out Hs.out hlt9 hlt6).mono ?_
      rintro e w3 ⟨rfl, hA3⟩
      have HA3 := Lib.hid (hA3.sub (List.sublist_cons_self _ _))
      clear hA3
      have hE2 := HE.out
      rw [writesM_cons] at hE2
      generalize hP : writeM D1 (q : Int) s = p at *
      clear hP
      obtain ⟨D2, e2⟩ := p
      simp only at hE2 Hb HA3 ⊢
      by_cases he : e2 = 0
      · subst he
        rw [if_neg (by decide)] at hE2
        have HE2 := Lib.hid hE2
        clear hE2
        go_wp2_with fail
        exact ⟨⟨i + 1, D2, by omega, by go_num, HA3.out, by rw [HE2.out, ← Hq.out]; rfl, by have := Hb.out.1; have := Hs1.out; omega, by have := Hb.out.2.1; have := Hs2.out; omega⟩, by simp [intOf]; omega⟩
      · rw [if_pos he] at hE2
        have HE2 := Lib.hid hE2
        have he2 : (e2 != 0) = true := by simpa using he
        clear hE2 he
        go_wp2_with fail
        go_ret
        exact ⟨by rw [HE2.out]; rfl, by rw [HE2.out]; exact HA3.out⟩
    · obtain rfl : i = ws.length := by omega
      rw [List.drop_of_length_le (Nat.le_refl _)] at hE
      have hlt9 : D1.steps < 9223372036854775807 := by have := Hst.out; omega
      obtain ⟨c0, _, _, _, _⟩ := log_cells_mem hA Hm.out
      have HE := Lib.hid hE
      have HA := Lib.hid hA
      clear hE hA hs1 hs2
      go_wp2_with fail
      refine (flush_any W0 wr d D1 _ HA.out hlt9).mono ?_
      rintro e w3 ⟨rfl, hA3⟩
      have HA3 := Lib.hid hA3
      clear hA3
      go_wp2_with fail
      go_ret
      exact ⟨by rw [HE.out]; rfl, by rw [HE.out]; exact HA3.out⟩
end Go.Proofs.YtkhnkidggcjfeaaGreatDoor
end
section
namespace Go.Proofs.YtkhnkidggcjfeaaGreatDoor
open Go.RowKit
def keptRow (l d s0 u0 : Nat) (lv : Value) (dead : Bool) (side used : Nat) (e : Int) : Rw := if e = 0 then rowLog l d side used lv dead else rowLog l d s0 u0 lv true
set_option maxHeartbeats 3200000 in
set_option maxRecDepth 100000 in
theorem keep_dk {W0 : Base} {w : World} {l d : Nat} {D : Dk} {s0 u0 : Nat} {lv : Value} {dead : Bool} {L : List Rw} (hA : DkAt W0 w d D (rowLog l d s0 u0 lv dead :: L)) (hc : Clean D) (hup : D.down = false) (h6 : 6 ≤ D.last.length) (side used h : Nat) (a : Option Addr) (c : Nat) (ws : List (List Value))
    (hL : SecsIn L a ws) (hsec : ∀ s ∈ ws, isSec s) (hs : side ≤ 1) (hh : h = (D.last.length - 2) / 2) (hf : used + ws.length ≤ h) (hst : D.steps ≤ 4611686018427000000) :
    Calls Tryz.prog 78 #[.pointer (some ⟨l, 0, none⟩), .agg #[.int .i64 side, .int .i64 used], .slice a ws.length c] w fun e w' => e = .returned (.int .i64 (keepM D h side used ws).2) ∧ DkAt W0 w' d (keepM D h side used ws).1 (keptRow l d s0 u0 lv dead side (used + ws.length) (keepM D h side used ws).2 :: L) := by
  have hm := hA.ok.le
  have hb := half_le D.last.length h6
  rw [← hh] at hb
  have hsh : side * h ≤ h := by
    rcases Nat.le_one_iff_eq_zero_or_eq_one.1 hs with rfl | rfl <;> omega
  obtain ⟨hW, hst1, hst2, hlf⟩ := writes_clean D hc hup hA.ok.left0 (2 + side * h + used) ws (by omega)
  have hA1 : DkAt W0 (w.alloc (.cells #[.int .i64 (side : Int), .int .i64 (used : Int)] 154)) d D (rowLog l d s0 u0 lv dead :: rowRoot w.heap.size side used :: L) := by
    obtain ⟨R, h1, h2⟩ := hA.open
    exact (h2 _ (rowRoot w.heap.size side used :: rowLog l d s0 u0 lv dead :: L) ((h1.root side used).perm List.perm_middle.symm)).perm (List.Perm.swap _ _ _)
  have HA1 := Lib.hid hA1
  have hpl := place_dk hA1 h6 side used hs (by omega)
  rw [← hh] at hpl
  have Hpl := Lib.hid hpl
  have hwr := write_dk hA1 (List.mem_cons_self ..) (2 + side * h + used) a c ws (hL.mono fun r hr => List.mem_cons_of_mem _ (List.mem_cons_of_mem _ hr)) hsec (by omega) (by omega) (by omega) (by rw [hc.1]; exact Nat.zero_le _)
  have Hwr := Lib.hid hwr
  have hK : keepM D h side used ws = if (writesM D (2 + side * h + used) ws).2 ≠ 0 then writesM D (2 + side * h + used) ws else writesM (writesM D (2 + side * h + used) ws).1 0 [bs (rootB side (used + ws.length))] := rfl
  have hlt : w.heap.size < (w.alloc (.cells #[.int .i64 (side : Int), .int .i64 (used : Int)] 154)).heap.size := by simp
  generalize hP : writesM D (2 + side * h + used) ws = p at *
  obtain ⟨D1, e1⟩ := p
  simp only at hK hW hst1 hst2 hlf
  have HK := Lib.hid hK
  have HW := Lib.hid hW
  have Hst := Lib.hid (show D1.steps ≤ 4611686018427387904 by omega)
  have hnu : used + ws.length ≤ 4096 := by omega
  have hnw : ws.length ≤ 4096 := by omega
  obtain ⟨q, hq⟩ : ∃ q, 2 + side * h + used = q := ⟨_, rfl⟩
  rw [hq] at Hpl Hwr
  clear hA hA1 hpl hwr hK hW hst1 hst2 hlf hst hP hq hL hsec hh hf hb hsh hm h6 hc hup
  obtain ⟨R1, hR1, hR2⟩ := HA1.out.open
  obtain ⟨b0, b1⟩ := root_cells hR1 (g := w.heap.size) (a := side) (b := used) (by simp)
  clear hR1 hR2 R1
  go_enter Tryz.func78, Tryz.ntmps78
  go_wp2_with fail
  generalize w.alloc (.cells #[.int .i64 (side : Int), .int .i64 (used : Int)] 154) = w1 at *
  generalize w.heap.size = H at *
  refine Hpl.out.mono ?_
  rintro e w' ⟨rfl, rfl⟩
  go_wp2_with fail
  refine Hwr.out.mono ?_
  rintro e w2 ⟨rfl, hA2⟩
  have HA2 := Lib.hid hA2
  obtain ⟨c0, c1, c2, c3, c4⟩ := log_cells_mem hA2 (List.mem_cons_self ..)
  have hown := hA2.own
  obtain ⟨g0, g1⟩ := root_cells hown (g := H) (a := side) (b := used) (by simp)
  clear hA2 b0 b1
  by_cases he : e1 = 0
  · subst he
    obtain ⟨u, hu⟩ : ∃ u, used + ws.length = u := ⟨_, rfl⟩
    have hsum : (used : Int) + (ws.length : Int) = (u : Int) := by omega
    have f1 : w2.frozen? ⟨H, 1, none⟩ = false := Own.free (h := hown.only (show rowRoot H side used ∈ _ by simp)) 1
    have hA3 : DkAt W0 (w2.setCell ⟨H, 1, none⟩ (.int .i64 (u : Int))) d D1 (rowRoot H side u :: rowLog l d s0 u0 lv dead :: L) := DkAt.onSet (h := HA2.out.perm (List.Perm.swap _ _ _)) 1 (.int .i64 (u : Int))
    have HA3 := Lib.hid hA3
    have HU := Lib.hid hu
    rw [hu] at hnu HK
    have hirt : (Tryz.prog.info? 154).map (·.size) = some [Value.int .i64 (side : Int), .int .i64 (u : Int)].length := info_root
    have hr3 : (w2.setCell ⟨H, 1, none⟩ (.int .i64 (u : Int))).rangeAt H 0 [Value.int .i64 (side : Int), .int .i64 (u : Int)] := by
      have := Own.range (h := hA3.own.only (List.mem_cons_self ..)) 0 2
      exact this
    clear hown hA3 hu HA2 c0 c1 c2 c3 c4
    go_wp2_with (refine wpList_load_mid rfl 154 (.tmp 4) rfl H 0 rfl [.int .i64 (side : Int), .int .i64 (u : Int)] _ ?hr Tryz.underlying154 rfl hirt ?_)
    case hr => first | exact hr3 | (rw [hsum]; exact hr3)
    refine (sector_any side u _ hs hnu).mono ?_
    rintro e w4 ⟨rfl, hb4⟩
    obtain ⟨cs, hcs⟩ : ∃ cs, bs (rootB side u) = cs := ⟨_, rfl⟩
    have hl64 : cs.length = 64 := by rw [← hcs, bs_length, rootB_length]
    have hA4 := HA3.out.later hb4
    have hA5 : DkAt W0 (w4.alloc (.cells cs.toArray 150)) d D1 (rowLog l d s0 u0 lv dead :: rowSec w4.heap.size cs :: rowRoot H side u :: L) := by
      obtain ⟨R, h1, h2⟩ := (hA4.perm (List.Perm.swap _ _ _)).open
      exact (h2 _ (rowSec w4.heap.size cs :: rowLog l d s0 u0 lv dead :: rowRoot H side u :: L) ((h1.sec cs hl64 _ rfl).perm List.perm_middle.symm)).perm (List.Perm.swap _ _ _)
    have hwr2 := write_dk hA5 (List.mem_cons_self ..) 0 (some ⟨w4.heap.size, 0, none⟩) 1 [cs] (fun _ => ⟨_, 1, rfl, by simp [rowSec]⟩) (fun s hs => by rw [List.mem_singleton.1 hs, ← hcs]; exact isSec_bs _ (rootB_length _ _)) (by decide) (by simp) Hst.out (by rw [HW.out.clean.1]; exact Nat.zero_le _)
    have Hwr2 := Lib.hid hwr2
    obtain ⟨i0, hi, hz0, hz1, hz2⟩ := info_parts info_s
    have HK2 := HK.out
    rw [if_neg (by decide), hcs] at HK2
    have HK3 := Lib.hid HK2
    have HCS := Lib.hid hcs
    have hzz : (Value.agg zSec.toArray).cells.size = 64 := rfl
    rw [hcs]
    clear hA4 hA5 hwr2 hb4 hcs HK2 HA3 HK Hwr Hpl HA1 hr3 g0 g1
    go_wp2_with (refine wpList_buildSlice_one rfl 104 (.tmp 27) rfl 150 64 i0 (.agg zSec.toArray) Tryz.underlying104 hi hz1 hz0 hzz (by decide) (by decide) cs rfl hl64 ?_)
    refine Hwr2.out.mono ?_
    rintro e w6 ⟨rfl, hA6⟩
    clear Hwr2
    generalize hP2 : writesM D1 0 [cs] = p2 at *
    obtain ⟨D2, e2⟩ := p2
    simp only at hA6 ⊢
    have hA6' : DkAt W0 w6 d D2 (rowLog l d s0 u0 lv dead :: rowRoot H side u :: L) := hA6.sub (.cons_cons _ (.cons _ (List.Sublist.refl _)))
    obtain ⟨c0, c1, c2, c3, c4, cf, clt⟩ := log_cells hA6'
    have cf4 := cf 4
    have hr6 : w6.rangeAt H 0 [Value.int .i64 (side : Int), .int .i64 (u : Int)] := by
      have := Own.range (h := hA6'.own.only (show rowRoot H side u ∈ _ by simp)) 0 2
      exact this
    have ht6 : w6.there l 1 2 := by
      obtain ⟨R, h1, _⟩ := hA6'.first
      exact Own.there (h := h1) 1 2 (by decide)
    by_cases he2 : e2 = 0
    · subst he2
      have hF : DkAt W0 (w6.setCells l 1 [Value.int .i64 (side : Int), .int .i64 (u : Int)]) d D2 (rowLog l d side u lv dead :: rowRoot H side u :: L) := DkAt.onSets (h := hA6') [Value.int .i64 (side : Int), .int .i64 (u : Int)] 1
      have HF := Lib.hid (hF.sub (.cons_cons _ (.cons _ (List.Sublist.refl _))) : DkAt W0 _ d D2 (rowLog l d side u lv dead :: L))
      have HP2 := Lib.hid hP2
      have cf1 := cf 1
      have cf2 := cf 2
      clear hF hA6 hA6' hP2 cf c0 c3 c4 cf4
      go_wp2_with (first
        | (refine wpList_load_mid rfl 154 (.tmp 4) rfl H 0 rfl [.int .i64 (side : Int), .int .i64 (u : Int)] _ hr6 Tryz.underlying154 rfl hirt ?_)
        | (refine wpList_store_mid rfl 154 (.tmp 39) (.tmp 37) rfl l 1 #[.int .i64 (side : Int), .int .i64 (u : Int)] rfl rfl ht6 hirt rfl ?_))
      go_ret
      refine ⟨by rw [HK3.out]; rfl, ?_⟩
      rw [HK3.out, HU.out]
      exact HF.out
    · have he2' : (e2 != 0) = true := by simpa using he2
      have hF : DkAt W0 (w6.setCell ⟨l, 4, none⟩ (.bool true)) d D2 (rowLog l d s0 u0 lv true :: rowRoot H side u :: L) := DkAt.onSet (h := hA6') 4 (.bool true)
      have HF := Lib.hid (hF.sub (.cons_cons _ (.cons _ (List.Sublist.refl _))) : DkAt W0 _ d D2 (rowLog l d s0 u0 lv true :: L))
      have HE2 := Lib.hid (show ∀ r, keptRow l d s0 u0 lv dead side r e2 = rowLog l d s0 u0 lv true from fun r => if_neg he2)
      clear hF hA6 hA6' hP2 cf c0 c1 c2 c3 hr6 ht6 he2
      go_wp2_with fail
      go_ret
      refine ⟨by rw [HK3.out]; rfl, ?_⟩
      rw [HK3.out, HE2.out]
      exact HF.out
  · have he' : (e1 == 0) = false := by simpa using he
    have he'' : (e1 != 0) = true := by simpa using he
    have hA2' : DkAt W0 w2 d D1 (rowLog l d s0 u0 lv dead :: L) := HA2.out.sub (.cons_cons _ (.cons _ (List.Sublist.refl _)))
    have HF := Lib.hid (DkAt.onSet (h := hA2') 4 (.bool true) : DkAt W0 (w2.setCell ⟨l, 4, none⟩ (.bool true)) d D1 (rowLog l d s0 u0 lv true :: L))
    obtain ⟨_, _, _, _, _, cf, clt⟩ := log_cells hA2'
    have cf4 := cf 4
    have HE2 := Lib.hid (show ∀ r, keptRow l d s0 u0 lv dead side r e1 = rowLog l d s0 u0 lv true from fun r => if_neg he)
    have HK2 := HK.out
    rw [if_pos he] at HK2
    have HK3 := Lib.hid HK2
    clear hA2' HA2 cf c0 c1 c2 c3 he HK HK2 Hpl Hwr HA1 hown g0 g1
    go_wp2_with fail
    go_ret
    refine ⟨by rw [HK3.out]; rfl, ?_⟩
    rw [HK3.out, HE2.out]
    exact HF.out
end Go.Proofs.YtkhnkidggcjfeaaGreatDoor
end
section
namespace Go.Proofs.YtkhnkidggcjfeaaGreatDoor
open Go.RowKit
open Classical in
noncomputable def refM (dead down : Bool) (room : Nat) (recs : List (List Int)) : Int :=
  if (dead || down) = true then 3 else if ∃ b ∈ recs, 4096 < b.length then 6 else if room < (secsB recs).length then 7 else 0
theorem secsB_take (recs : List (List Int)) (k : Nat) (h : k < recs.length) : (secsB (recs.take (k + 1))).length = (secsB (recs.take k)).length + roomM (recs[k]).length := by
  rw [List.take_succ_eq_append_getElem h, secsB_append, List.length_append, secsB_one, layB_length]
theorem secsB_bound (recs : List (List Int)) (k : Nat) (h : k ≤ recs.length) (hl : ∀ b ∈ recs.take k, b.length ≤ 4096) : (secsB (recs.take k)).length ≤ k * 66 := by
  induction k with
  | zero => simp [secsB]
  | succ k ih =>
    have hlt : k < recs.length := by omega
    rw [secsB_take recs k hlt]
    have h1 := ih (by omega) (fun b hb => hl b (List.mem_of_mem_take (i := k) (by rw [List.take_take, Nat.min_eq_left (by omega)]; exact hb)))
    have h2 : recs[k].length ≤ 4096 := hl _ (by rw [List.take_succ_eq_append_getElem hlt]; exact List.mem_append_right _ (List.mem_singleton.2 rfl))
    have h3 : roomM recs[k].length ≤ 66 := by unfold roomM; omega
    omega
theorem LgAt.kill {W0 : Base} {w : World} {l d : Nat} {D : Dk} {side used : Nat} {recs : List (List Int)} {dead : Bool} {L : List Rw} (h : LgAt W0 w l d D side used recs dead L) (b : Bool) : LgAt W0 (w.setCell ⟨l, 4, none⟩ (.bool b)) l d D side used recs b L := by
  obtain ⟨lv, vs, M, h1, h2⟩ := h.rest
  exact ⟨h.six, h.sides, h.fit, lv, vs, M, DkAt.onSet (h := h1) 4 (.bool b), h2⟩
theorem Parts.form {w : World} {a : Option Addr} {PS : List (Value × List Int)} (h : Parts w a PS) (i : Nat) (hi : i < PS.length) : ∃ g o x c, a = some ⟨g, o, none⟩ ∧ w.cell? ⟨g, o + i, none⟩ = some (.slice x (PS[i].2).length c) ∧ PS[i].1 = .slice x (PS[i].2).length c ∧ (PS[i].2).length ≤ c ∧ c ≤ maxLen := by
  obtain ⟨g, o, ha, hc, _, _, x, c, hv, h1, h2⟩ := h i hi
  exact ⟨g, o, x, c, ha, by rw [hc, hv], hv, h1, h2⟩
set_option maxHeartbeats 3200000 in
set_option maxRecDepth 100000 in
theorem refused_lg {W0 : Base} {w : World} {l d : Nat} {D : Dk} {side used : Nat} {recs : List (List Int)} {dead : Bool} {L : List Rw} (h : LgAt W0 w l d D side used recs dead L) (room : Nat) (hroom : room ≤ 4096) (a : Option Addr) (c : Nat) (PS : List (Value × List Int)) (hP : ∀ w', Own W0 w' L → Parts w' a PS) (hn : PS.length ≤ 1000000) :
    Calls Tryz.prog 100 #[.pointer (some ⟨l, 0, none⟩), .int .i64 room, .slice a PS.length c] w fun e w' => e = .returned (.int .i64 (refM dead D.down room (PS.map (·.2)))) ∧ LgAt W0 w' l d D side used recs (dead || D.down) L := by
  obtain ⟨c0, c1, c2, c4, cf, cl⟩ := h.cells
  have f4 := cf 4
  obtain ⟨L', hd⟩ := h.disk
  have Hdn := Lib.hid (down_any W0 w d D L' hd)
  have HA := Lib.hid (h.kill (dead || D.down))
  obtain ⟨b, hb⟩ : ∃ b, (dead || D.down) = b := ⟨_, rfl⟩
  have HB := Lib.hid hb
  rw [hb] at HA
  obtain ⟨w1, hw1⟩ : ∃ w1, w.setCell ⟨l, 4, none⟩ (.bool b) = w1 := ⟨_, rfl⟩
  rw [hw1] at HA
  have k4 : w1.cell? ⟨l, 4, none⟩ = some (.bool b) := HA.out.cells.2.2.2.1
  have HP := Lib.hid (hP w1 HA.out.own)
  have HR := Lib.hid (show refM dead D.down room (PS.map (·.2)) = (open Classical in if b = true then 3 else if ∃ x ∈ PS.map (·.2), 4096 < x.length then 6 else if room < (secsB (PS.map (·.2))).length then 7 else 0) by unfold refM; rw [hb])
  have hpick : (if dead = true then true else D.down) = b := by rw [← hb]; cases dead <;> rfl
  have HW1 := Lib.hid hw1
  clear h hd hb cf hP hw1
  go_enter Tryz.func100, Tryz.ntmps100
  go_upto_region 1 with (fail)
  go_cut [] (fun wc => wc = w1)
  case first =>
    cases dead
    · have hpick' : D.down = b := by rw [← HB.out]; rfl
      rw [hpick'] at Hdn
      have HW1 := HW1
      clear hpick hpick' HR
      go_wp2_with fail
      refine Hdn.out.mono ?_
      rintro e w' ⟨rfl, rfl⟩
      go_wp2_with fail
      go_meet
      exact HW1.out
    · obtain rfl : true = b := by rw [← HB.out]; rfl
      clear hpick HR
      go_wp2_with fail
      go_meet
      exact HW1.out
  case rest =>
    subst hcut
    clear HW1 Hdn hpick c0 c1 c2 c4 f4 cl
    cases b
    · have HR2 := Lib.hid HR.out
      rw [if_neg (by decide)] at HR2
      go_wp2_with fail
      go_loop [7, 30] (fun t i => ∃ k : Nat, k ≤ PS.length ∧ i = .int .i64 k ∧ t = .int .i64 ((secsB ((PS.map (·.2)).take k)).length : Int) ∧ ∀ x ∈ (PS.map (·.2)).take k, x.length ≤ 4096) (fun _ i => PS.length - (intOf i).toNat)
      case atStart => exact ⟨0, Nat.zero_le _, rfl, by simp [secsB], by simp⟩
      case round =>
        obtain ⟨k, hk, rfl, rfl, hall⟩ := hrel
        by_cases hlt : k < PS.length
        · obtain ⟨g, o, x, c', rfl, hc, _, _, _⟩ := HP.out.form k hlt
          have hlm : k < (PS.map (·.2)).length := by simpa using hlt
          have hS := secsB_take (PS.map (·.2)) k hlm
          have hB := secsB_bound (PS.map (·.2)) k (by omega) hall
          have hget : (PS.map (·.2))[k] = PS[k].2 := by rw [List.getElem_map]
          have hT : (PS.map (·.2)).take (k + 1) = (PS.map (·.2)).take k ++ [PS[k].2] := by rw [List.take_succ_eq_append_getElem hlm, hget]
          rw [hget] at hS
          have hmem : PS[k].2 ∈ PS.map (·.2) := List.mem_map_of_mem (List.getElem_mem hlt)
          have HS := Lib.hid hS
          have HT := Lib.hid hT
          have Hall := Lib.hid hall
          have Hmem := Lib.hid hmem
          generalize (secsB ((PS.map (·.2)).take k)).length = m at *
          generalize PS[k].2 = zs at *
          clear hS hT hall hget hlm hmem
          by_cases hz : 4096 < zs.length
          · have HE := Lib.hid (show ∃ x, x ∈ PS.map (·.2) ∧ 4096 < x.length from ⟨zs, Hmem.out, hz⟩)
            go_wp2_with fail
            go_ret
            exact ⟨by rw [HR2.out, if_pos HE.out]; rfl, by rw [HB.out]; exact HA.out⟩
          · have hzn : zs.length ≤ 140737488355328 := by omega
            have hrb : roomM zs.length ≤ 66 := by unfold roomM; omega
            go_wp2_with (go_at_call 123; refine (room_any zs.length _ hzn).mono ?_; rintro e w' ⟨rfl, rfl⟩)
            exact ⟨⟨k + 1, by omega, by go_num, by rw [HS.out]; go_num, fun y hy => by
              rw [HT.out] at hy
              rcases List.mem_append.1 hy with h1 | h1
              · exact Hall.out y h1
              · rw [List.mem_singleton.1 h1]; omega⟩, by simp [intOf]; omega⟩
        · obtain rfl : k = PS.length := by omega
          rw [List.take_of_length_le (by simp)] at hall
          have hB := secsB_bound (PS.map (·.2)) PS.length (by simp) (by rw [List.take_of_length_le (by simp)]; exact hall)
          rw [List.take_of_length_le (by simp)] at hB ⊢
          have hno : ¬ ∃ x, x ∈ PS.map (·.2) ∧ 4096 < x.length := fun ⟨x, h1, h2⟩ => by have := hall x h1; omega
          have HN := Lib.hid hno
          clear hall hno
          generalize (secsB (PS.map (·.2))).length = m at *
          by_cases hfu : room < m
          · have HE := Lib.hid hfu
            go_wp2_with fail
            go_ret
            exact ⟨by rw [HR2.out, if_neg HN.out, if_pos HE.out]; rfl, by rw [HB.out]; exact HA.out⟩
          · have HE := Lib.hid hfu
            go_wp2_with fail
            go_ret
            exact ⟨by rw [HR2.out, if_neg HN.out, if_neg HE.out]; rfl, by rw [HB.out]; exact HA.out⟩
    · have HR2 := Lib.hid HR.out
      rw [if_pos rfl] at HR2
      go_wp2_with fail
      go_ret
      exact ⟨by rw [HR2.out]; rfl, by rw [HB.out]; exact HA.out⟩
end Go.Proofs.YtkhnkidggcjfeaaGreatDoor
end
section
namespace Go.Proofs.YtkhnkidggcjfeaaGreatDoor
open Go.RowKit
theorem one_parts {W0 : Base} {w : World} {g cp : Nat} {v : Value} {b : List Int} {L : List Rw} (hb : By w v b) (h : Own W0 w (rowV (.slice (some ⟨g, 0, none⟩) 1 cp) [v] :: L)) : Parts w (some ⟨g, 0, none⟩) [(v, b)] := by
  intro i hi
  obtain rfl : i = 0 := by simpa using hi
  have h' : Own W0 w (⟨38, 1, .slice (some ⟨g, 0, none⟩) 1 cp, 1, [v]⟩ :: L) := h
  exact ⟨g, 0, rfl, Own.cell (h := h') 0 (by decide), hb⟩
theorem LgAt.box {W0 : Base} {w : World} {l d : Nat} {D : Dk} {side used : Nat} {recs : List (List Int)} {dead : Bool} {L : List Rw} (h : LgAt W0 w l d D side used recs dead L) (v : Value) : LgAt W0 (w.alloc (.cells #[v] 38)) l d D side used recs dead (rowV (.slice (some ⟨w.heap.size, 0, none⟩) 1 1) [v] :: L) :=
  h.join ((Own.start w).made 38 1 #[v] 1 rfl (by unfold maxLen; decide))
theorem refM_ok {dead down : Bool} {room : Nat} {recs : List (List Int)} (h : refM dead down room recs = 0) : dead = false ∧ down = false ∧ (∀ b ∈ recs, b.length ≤ 4096) ∧ (secsB recs).length ≤ room := by
  unfold refM at h
  split at h
  · cases h
  · rename_i h1
    split at h
    · cases h
    · rename_i h2
      split at h
      · cases h
      · rename_i h3
        refine ⟨?_, ?_, fun b hb => ?_, by omega⟩
        · cases dead
          · rfl
          · exact absurd rfl h1
        · cases down
          · rfl
          · exact absurd (by cases dead <;> rfl) h1
        · rcases Nat.lt_or_ge 4096 b.length with h4 | h4
          · exact absurd ⟨b, hb, h4⟩ h2
          · exact h4
theorem keepM_len (D : Dk) (hc : Clean D) (hu : D.down = false) (h0 : 0 ≤ D.left) (h side used : Nat) (ws : List (List Value)) (h6 : 6 ≤ D.last.length) (hh : h = (D.last.length - 2) / 2) (hs : side ≤ 1) (hf : used + ws.length ≤ h) : (keepM D h side used ws).1.last.length = D.last.length := by
  have hb := half_le D.last.length h6
  rw [← hh] at hb
  have hsh : side * h ≤ h := by
    rcases Nat.le_one_iff_eq_zero_or_eq_one.1 hs with rfl | rfl <;> omega
  obtain ⟨hW, _, _, hlf⟩ := writes_clean D hc hu h0 (2 + side * h + used) ws (by omega)
  unfold keepM
  rcases hW.ends with ⟨e1, u1, l1⟩ | ⟨e1, u1, f1, l1⟩
  · rw [e1, if_neg (by decide)]
    obtain ⟨hW2, _, _, _⟩ := writes_clean _ hW.clean u1 hlf 0 [bs (rootB side (used + ws.length))] (by rw [hW.len]; simp; omega)
    exact hW2.len.trans hW.len
  · rw [e1, if_pos (by decide)]
    exact hW.len
theorem rowSecs_in {W0 : Base} {w : World} {L : List Rw} {lv : Value} {ss : List (List Int)} (h : Own W0 w L) (hm : rowSecs lv ss ∈ L) : ∃ a c, lv = .slice a ss.length c ∧ SecsIn L a (ss.map bs) := by
  have h1 := h.only hm
  obtain ⟨a, c, hv, _, _⟩ := Own.sized (h := h1)
  refine ⟨a, c, hv, fun hp => ?_⟩
  rw [List.length_map] at hp
  obtain ⟨g, cap, hf, _, _, _, _⟩ := Own.form (h := h1) hp
  rw [hv] at hf
  injection hf with e1 e2 e3
  subst e1
  refine ⟨g, c, rfl, ?_⟩
  rw [List.length_map]
  rw [hv] at hm
  exact hm
theorem perm3 (a b c : Rw) (L : List Rw) : ([a] ++ (b :: c :: L)).Perm (c :: a :: b :: L) := ((List.Perm.swap c b L).cons a).trans (List.Perm.swap c a (b :: L))
theorem src_box (w : World) (T : TypeId) (v : Value) (h : v.oneCell' = true) : Src (w.alloc (.cells #[v] T)) (.slice (some ⟨w.heap.size, 0, none⟩) 1 1) 1 [v] := by
  refine .inr ⟨_, _, rfl, fun j u hj => ?_, fun u hu => by rw [List.mem_singleton.1 hu]; exact h⟩
  rw [Addr.add_mid, Nat.zero_add, World.cell?_alloc_new]
  simpa using hj
theorem app_end {W0 : Base} {w : World} {l d : Nat} {D : Dk} {side used n : Nat} {recs : List (List Int)} {v lv u : Value} {b : List Int} {vs : List Value} {M R L : List Rw} (hn : n = vs.length) (hA : DkAt W0 w d D (⟨38, 1, v, n + 1, vs ++ [u]⟩ :: rowU u b :: rowLog l d side used lv false :: (M ++ (R ++ L)))) (hL : Lst M vs recs) (hz : Byts b)
    (h6 : 6 ≤ D.last.length) (hs : side ≤ 1) (hf : used ≤ (D.last.length - 2) / 2) : LgAt W0 (w.setCell ⟨l, 3, none⟩ v) l d D side used (recs ++ [b]) false L := by
  subst hn
  have h1 : DkAt W0 (w.setCell ⟨l, 3, none⟩ v) d D (rowLog l d side used v false :: ⟨38, 1, v, vs.length + 1, vs ++ [u]⟩ :: rowU u b :: (M ++ (R ++ L))) := DkAt.onSet (h := hA.perm (perm3 _ _ _ _)) 3 v
  have e : (⟨38, 1, v, vs.length + 1, vs ++ [u]⟩ : Rw) = rowV v (vs ++ [u]) := by unfold rowV; rw [List.length_append]; rfl
  rw [e] at h1
  have hp : Pc [rowU u b] u b := Pc.all (hA.own.only (List.mem_cons_of_mem _ (List.mem_cons_self ..))) hz
  refine ⟨h6, hs, hf, v, vs ++ [u], rowU u b :: M, h1.sub ?_, ?_⟩
  · exact ((((List.Sublist.append_left (List.sublist_append_right R L) M).cons_cons _).cons_cons _).cons_cons _)
  · exact (hL.mono fun r hr => List.mem_cons_of_mem _ hr).push (hp.mono fun r hr => by rw [List.mem_singleton.1 hr]; exact List.mem_cons_self ..)
/-! append of lists of records, as a rule for a region that draws its order. -/
def okApp (w : World) (ty : TypeId) (x y : Value) : Prop := ∃ v w', (Builtin.append_ #[102, 102] ty #[x, y]).run Tryz.prog w = .ok v w'
noncomputable def appV (w : World) (ty : TypeId) (x y : Value) : Value := match (Builtin.append_ #[102, 102] ty #[x, y]).run Tryz.prog w with
  | .ok v _ => v
  | _ => undef
noncomputable def appW (w : World) (ty : TypeId) (x y : Value) : World := match (Builtin.append_ #[102, 102] ty #[x, y]).run Tryz.prog w with
  | .ok _ w' => w'
  | _ => w
theorem wp_app {dd : Option Tmp} {x y : Operand} {ty : TypeId} {ps : String} {af : Array Edge} {gd : Option (Nat × Bool)} {a : Act} {w : World} {K : Act → World → Prop} {Q : Exit → Act → World → Prop} (h : okApp w ty (a.eval x) (a.eval y)) :
    Oper.wp Tryz.prog ⟨dd, .call { callee := .builtin .append, args := #[x, y], argTypes := #[102, 102] }, ty, ps, af, gd⟩ a w K Q = K (a.put dd (appV w ty (a.eval x) (a.eval y))) (appW w ty (a.eval x) (a.eval y)) := by
  obtain ⟨v, w', hr⟩ := h
  unfold Oper.wp appV appW
  simp [execOp, resolve, invoke, builtin, hr, Result.andThen]
  exact Iff.rfl
attribute [local go_sem ↓] wp_app Go.wp_at_zero Go.wp_at_succ
theorem keep_lg {W0 : Base} {w : World} {l d : Nat} {D : Dk} {s0 u0 : Nat} {recs : List (List Int)} {dead : Bool} {L : List Rw} (hA : LgAt W0 w l d D s0 u0 recs dead L) (hc : Clean D) (hup : D.down = false) (side used h : Nat) (a : Option Addr) (c : Nat) (ss : List (List Int))
    (hL : SecsIn L a (ss.map bs)) (hsec : ∀ s ∈ ss, s.length = 64) (hs : side ≤ 1) (hh : h = (D.last.length - 2) / 2) (hf : used + ss.length ≤ h) (hst : D.steps ≤ 4611686018427000000) :
    Calls Tryz.prog 78 #[.pointer (some ⟨l, 0, none⟩), .agg #[.int .i64 side, .int .i64 used], .slice a ss.length c] w fun e w' => e = .returned (.int .i64 (keepM D h side used (ss.map bs)).2) ∧ ∃ lv vs M, DkAt W0 w' d (keepM D h side used (ss.map bs)).1 (keptRow l d s0 u0 lv dead side (used + ss.length) (keepM D h side used (ss.map bs)).2 :: rowV lv vs :: (M ++ L)) ∧ Lst M vs recs := by
  obtain ⟨lv, vs, M, h1, h2⟩ := hA.rest
  have := keep_dk h1 hc hup hA.six side used h a c (ss.map bs) (hL.mono fun r hr => List.mem_cons_of_mem _ (List.mem_append_right _ hr)) (fun s hs => by
    obtain ⟨x, hx, rfl⟩ := List.mem_map.1 hs
    exact isSec_bs x (hsec x hx)) hs hh (by rw [List.length_map]; exact hf) hst
  rw [List.length_map] at this
  exact this.mono fun e w' ⟨h3, h4⟩ => ⟨h3, lv, vs, M, h4, h2⟩
theorem layB_64 (b : List Int) : ∀ s ∈ layB b, s.length = 64 := by
  intro s hs
  obtain ⟨i, _, rfl⟩ := List.mem_map.1 hs
  exact cutB_length _ _
set_option maxHeartbeats 3200000 in
set_option maxRecDepth 100000 in
theorem append_lg {W0 : Base} {w : World} {l d : Nat} {D : Dk} {side used : Nat} {recs : List (List Int)} {dead : Bool} {L : List Rw} (h : LgAt W0 w l d D side used recs dead L) (v : Value) (b : List Int) (hb : ∀ w', Own W0 w' L → By w' v b) (hR : recs.length ≤ 1000000)
    (hc : Clean D) (hst : D.steps ≤ 4611686018427000000) (code : Int) (hcode : code = refM dead D.down ((D.last.length - 2) / 2 - used) [b])
    (Q : Ending → World → Prop) (hno : ∀ w', code ≠ 0 → LgAt W0 w' l d D side used recs (dead || D.down) L → Q (.returned (.int .i64 code)) w')
    (hyes : ∀ w', code = 0 → (keepM D ((D.last.length - 2) / 2) side used (secsV [b])).2 = 0 → LgAt W0 w' l d (keepM D ((D.last.length - 2) / 2) side used (secsV [b])).1 side (used + roomM b.length) (recs ++ [b]) false L → Q (.returned (.int .i64 0)) w')
    (hbad : ∀ w', code = 0 → (keepM D ((D.last.length - 2) / 2) side used (secsV [b])).2 ≠ 0 → LgAt W0 w' l d (keepM D ((D.last.length - 2) / 2) side used (secsV [b])).1 side used recs true L → Q (.returned (.int .i64 (keepM D ((D.last.length - 2) / 2) side used (secsV [b])).2)) w') :
    Calls Tryz.prog 61 #[.pointer (some ⟨l, 0, none⟩), v] w Q := by
  have hby := hb w h.own
  have hbl := hby.len
  have hbz := hby.2.1
  have hm := h.ok.le
  obtain ⟨a0, c0, rfl, hc1, hc2⟩ := hby.2.2
  have Hleft := Lib.hid (left_any h)
  obtain ⟨room, hroom⟩ : ∃ room, (D.last.length - 2) / 2 - used = room := ⟨_, rfl⟩
  have hroom4 : room ≤ 4096 := by omega
  rw [hroom] at Hleft hcode
  have H := Lib.hid h
  have Hb := Lib.hid hb
  have Hcode := Lib.hid hcode
  have Hno := Lib.hid hno
  have Hyes := Lib.hid hyes
  have Hbad := Lib.hid hbad
  have Hst := Lib.hid hst
  have Hc := Lib.hid hc
  have Hbz := Lib.hid hbz
  have HR := Lib.hid hR
  have Hroom := Lib.hid hroom
  clear h hb hcode hno hyes hbad hst hc hbz hR hroom hby hm
  go_enter Tryz.func61, Tryz.ntmps61
  go_upto_region 1 with (fail)
  go_cut [5] (fun s wc => s = .int .i64 code ∧ LgAt W0 wc l d D side used recs (dead || D.down) L)
  case first =>
    go_wp2_with fail
    refine Hleft.out.mono ?_
    rintro e w' ⟨rfl, n, rfl⟩
    go_wp2_with fail
    refine (refused_lg ((H.out.drewN (n := n)).box (.slice a0 b.length c0)) room hroom4 (some ⟨_, 0, none⟩) 1 [(.slice a0 b.length c0, b)] (fun w' hO => one_parts (Hb.out w' hO.tail) hO) (by simp)).mono ?_
    rintro e w2 ⟨rfl, hA2⟩
    have HA2 := Lib.hid (hA2.sub (List.sublist_cons_self _ _))
    clear hA2
    rw [show refM dead D.down room ([(Value.slice a0 b.length c0, b)].map (·.2)) = code from Hcode.out.symm]
    go_wp2_with fail
    go_meet
    exact ⟨rfl, HA2.out⟩
  case rest =>
    obtain ⟨rfl, hA⟩ := hcut
    have HA := Lib.hid hA
    clear hA
    by_cases h0 : code = 0
    · subst h0
      obtain ⟨rfl, hup, hl4, hfit⟩ := refM_ok Hcode.out.symm
      have hl4 := hl4 b (List.mem_singleton.2 rfl)
      rw [secsB_one, layB_length] at hfit
      rw [hup] at HA
      have HA : Hid (LgAt W0 wc l d D side used recs false L) := HA
      have h6 := HA.out.six
      have hsd := HA.out.sides
      have hft := HA.out.fit
      obtain ⟨h, hh⟩ : ∃ h, h = (D.last.length - 2) / 2 := ⟨_, rfl⟩
      rw [← hh] at Hyes Hbad Hroom hft
      have hln : (secsV [b]).length = roomM b.length := by rw [secsV_length, secsB_one, layB_length]
      have hfit2 : used + (secsV [b]).length ≤ h := by rw [hln]; have := Hroom.out; omega
      have hklen := keepM_len D Hc.out hup HA.out.ok.left0 h side used (secsV [b]) h6 hh hsd hfit2
      obtain ⟨c0', c1, c2, c4, cf, cl⟩ := HA.out.cells
      have Hln := Lib.hid hln
      have Hfit2 := Lib.hid hfit2
      have Hklen := Lib.hid hklen
      have Hh := Lib.hid hh
      have Hup := Lib.hid hup
      have Hl4 := Lib.hid hl4
      obtain ⟨r, hr⟩ : ∃ r, keepM D h side used (secsV [b]) = r := ⟨_, rfl⟩
      rw [hr] at Hyes Hbad Hklen
      have Hr := Lib.hid hr
      have hby := Hb.out wc HA.out.own
      have Hby := Lib.hid hby
      clear hln hfit2 hklen hh hup hl4 hfit hr hft h6 Hleft H Hno hby cf c0' c4
      go_upto_region 4 with (fail)
      go_cut [6] (fun s wc => ∃ lv vs M R, s = .int .i64 r.2 ∧ DkAt W0 wc d r.1 (keptRow l d side used lv false side (used + roomM b.length) r.2 :: rowV lv vs :: (M ++ (R ++ L))) ∧ Lst M vs recs)
      case first =>
        go_region_with (first
          | (go_at_call 102; refine (lay_bytes (.slice a0 b.length c0) b _ ?_ Hl4.out).mono ?_; (first | exact Hby.out | exact Hby.out.drew); rintro e w3 ⟨lv3, rfl, hO3⟩; (first | have HA3 := Lib.hid (HA.out.join hO3) | have HA3 := Lib.hid (HA.out.drew.join hO3)); obtain ⟨g0, g1, g2, g4, gf, gl⟩ := HA3.out.cells; obtain ⟨a3, c3, rfl, hin⟩ := rowSecs_in HA3.out.own (List.mem_append_left _ (List.mem_cons_self ..)); have Hin := Lib.hid hin; clear hO3 hin gf g4 g0)
          | (go_at_call 78; refine (keep_lg HA3.out Hc.out Hup.out side used h a3 c3 (layB b) Hin.out (layB_64 b) hsd Hh.out (by have := Hfit2.out; rw [Hln.out] at this; rw [layB_length]; exact this) Hst.out).mono ?_; rintro e w4 ⟨rfl, lv, vs, M, hA4, hL4⟩; rw [show keepM D h side used ((layB b).map bs) = r from (by rw [← Hr.out, secsV, secsB_one])] at hA4 ⊢; rw [layB_length] at hA4; have HA4 := Lib.hid hA4; have HL4 := Lib.hid hL4; clear hA4 hL4))
        all_goals (go_wp2_with fail; go_meet)
        all_goals exact ⟨lv, vs, M, [_], rfl, HA4.out, HL4.out⟩
      case rest =>
        obtain ⟨lv, vs, M, R, rfl, hA4, hL4⟩ := hcut
        have HA4 := Lib.hid hA4
        have HL4 := Lib.hid hL4
        clear hA4 hL4 c1 c2 cl Hby
        obtain ⟨D2, e2⟩ := r
        simp only at Hyes Hbad HA4 Hklen ⊢
        by_cases he : e2 = 0
        · subst he
          have hA5 : DkAt W0 wc d D2 (rowLog l d side (used + roomM b.length) lv false :: rowV lv vs :: (M ++ (R ++ L))) := HA4.out
          obtain ⟨i0, hi, hz0, hz1, hz2⟩ := info_parts info_v
          have HA5 := Lib.hid hA5
          have Hby5 := Lib.hid (Hb.out wc (hA5.own.of_mem (((List.sublist_append_of_sublist_right (List.sublist_append_right R L)).cons _).cons _)))
          obtain ⟨b0, b1, b2, b3, b4, bf, bl⟩ := log_cells hA5
          have hvl : vs.length ≤ 1000000 := by rw [HL4.out.1]; exact HR.out
          have Hvl := Lib.hid hvl
          have hbl9 : b.length ≤ 140737488355328 := by have := Hl4.out; omega
          clear hA5 HA4 bf b0 b1 b2 b4 hvl Hbad
          obtain ⟨lq, cq, hlq, _, _⟩ := Own.sized (h := (HA5.out.own.tail : Own W0 wc (rowV lv vs :: (M ++ (R ++ L)))))
          subst hlq
          go_upto_region 7 with (fail)
          go_region_with (first
            | (go_at_call 103; refine (clone_any (.slice a0 b.length c0) b _ (by first | exact Hby5.out | exact Hby5.out.drew) hbl9).mono ?_; rintro e w5 ⟨v5, rfl, hO5⟩; obtain ⟨a5, k5, c5, rfl⟩ := hO5.form3; (first | have HA6 := Lib.hid (HA5.out.join hO5) | have HA6 := Lib.hid (HA5.out.drew.join hO5)); have HP6 := Lib.hid (Pc.all (HA6.out.own : Own W0 w5 (rowU (.slice a5 k5 c5) b :: _)) Hbz.out); obtain ⟨R2, h7, h8⟩ := (HA6.out.perm (perm3 _ _ _ _)).first; have q3 : w5.cell? ⟨l, 3, none⟩ = some (.slice lq vs.length cq) := (log_cells (HA6.out.perm (List.Perm.swap _ _ _))).2.2.2.1; have ql : l < w5.heap.size := (log_cells (HA6.out.perm (List.Perm.swap _ _ _))).2.2.2.2.2.2; obtain ⟨v6, w6, hr6, hO6⟩ := run_append_src (P := Tryz.prog) (t := 102) (ty := 102) (h7.alloc (.cells #[.slice a5 k5 c5] 38)) i0 (.slice none 0 0) 24 Tryz.underlying102 hi hz0 hz1 hz2 rfl (by decide) (.slice (some ⟨w5.heap.size, 0, none⟩) 1 1) 1 (src_box w5 38 (.slice a5 k5 c5) rfl) (by simp) (by have := Hvl.out; unfold maxLen; omega) (by have := Hvl.out; omega); obtain ⟨a6, c6, rfl, _, _⟩ := Own.sized (h := hO6); have qk : okApp (w5.alloc (.cells #[.slice a5 k5 c5] 38)) 102 (.slice lq vs.length cq) (.slice (some ⟨w5.heap.size, 0, none⟩) 1 1) := ⟨_, _, hr6⟩; have qv : appV (w5.alloc (.cells #[.slice a5 k5 c5] 38)) 102 (.slice lq vs.length cq) (.slice (some ⟨w5.heap.size, 0, none⟩) 1 1) = .slice a6 (vs.length + 1) c6 := (by unfold appV; rw [hr6]); have qw : appW (w5.alloc (.cells #[.slice a5 k5 c5] 38)) 102 (.slice lq vs.length cq) (.slice (some ⟨w5.heap.size, 0, none⟩) 1 1) = w6 := (by unfold appW; rw [hr6]); have HA7 := Lib.hid (h8 w6 _ _ hO6); obtain ⟨_, _, _, z3, _, zf, zl⟩ := log_cells (HA7.out.perm (perm3 _ _ _ _)); have zf3 := zf 3; clear hO5 h7 h8 hO6 zf hr6))
          all_goals have HF := Lib.hid (app_end rfl HA7.out HL4.out Hbz.out (by rw [Hklen.out]; exact HA.out.six) hsd (by rw [Hklen.out, ← Hh.out]; have := Hfit2.out; rw [Hln.out] at this; exact this))
          all_goals clear HA7 qk qv qw q3 ql z3 zf3 zl
          all_goals go_wp2_with fail
          all_goals exact Hyes.out _ (by trivial) (by trivial) HF.out
        · have he' : (e2 != 0) = true := by simpa using he
          have hA5 : DkAt W0 wc d D2 (rowLog l d side used lv true :: rowV lv vs :: (M ++ (R ++ L))) := by
            have := HA4.out
            rw [keptRow, if_neg he] at this
            exact this
          have HF := Lib.hid (show LgAt W0 wc l d D2 side used recs true L from ⟨by rw [Hklen.out]; exact HA.out.six, hsd, by rw [Hklen.out]; exact HA.out.fit, lv, vs, M, hA5.sub ((List.Sublist.append_left (List.sublist_append_right R L) M).cons_cons _ |>.cons_cons _), HL4.out⟩)
          have HE := Lib.hid he
          clear hA5 he
          go_wp2_with fail
          exact Hbad.out _ (by trivial) HE.out HF.out
    · have h0' : (code != 0) = true := by simpa using h0
      go_wp2_with fail
      exact Hno.out _ h0 HA.out
end Go.Proofs.YtkhnkidggcjfeaaGreatDoor
end
section
namespace Go.Proofs.YtkhnkidggcjfeaaGreatDoor
open Go.RowKit
end Go.Proofs.YtkhnkidggcjfeaaGreatDoor
end
