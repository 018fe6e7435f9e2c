/- Lists of parts. -/
import Derived.Test.YtihnjhigemhknaaGreatDoorAr5
import Derived.Deep.LoopGhost
namespace Go.Proofs.YtihnjhigemhknaaGreatDoor
open Go.RowKit
set_option linter.unusedVariables false
set_option linter.unusedSimpArgs false
set_option maxRecDepth 100000

def rowPs (v : Value) (PS : List (Value × List Int)) : Rw := ⟨58, 1, v, PS.length, PS.map (·.1)⟩
/-- How far a list of parts has come. -/
def LsRel {α : Type} (w : World) (f : α → List Int) (xs : List α) (v i : Value) (wr : World) : Prop :=
  ∃ (k : Nat) (PS : List (Value × List Int)) (L1 : List Rw), i = .int .i64 k ∧ k ≤ xs.length ∧ Own w wr (rowPs v PS :: L1) ∧ (∀ p ∈ PS, rowU p.1 p.2 ∈ L1 ∧ Byts p.2) ∧ allOf PS = ((xs.take k).map f).flatten ∧ PS.length = k
theorem part_infoA : ∃ i, Tryz.prog.info? 58 = some i ∧ i.zero = some (.slice none 0 0) ∧ i.size = 1 ∧ i.bytes = 24 := by
  have h : (Tryz.prog.info? 58).map (fun i => (i.zero, i.size, i.bytes)) = some (some (.slice none 0 0), 1, 24) := by kernel_rfl
  cases hi : Tryz.prog.info? 58 with
  | none => rw [hi] at h; cases h
  | some i =>
    rw [hi] at h
    injection h with h
    injection h with h1 h2
    injection h2 with h2 h3
    exact ⟨i, rfl, h1, h2, h3⟩
theorem LsRel.step {α : Type} {w w9 : World} {f : α → List Int} {xs : List α} {k : Nat} {v9 v2 : Value} {PS : List (Value × List Int)} {L1 : List Rw} (hlt : k < xs.length) (hO : Own w w9 (⟨58, 1, v9, PS.length + 1, PS.map (·.1) ++ [v2]⟩ :: rowU v2 (f xs[k]) :: L1)) (hps : ∀ p ∈ PS, rowU p.1 p.2 ∈ L1 ∧ Byts p.2) (hb : Byts (f xs[k])) (hall : allOf PS = ((xs.take k).map f).flatten) (hl : PS.length = k) :
    ∀ i, i = .int .i64 ((k + 1 : Nat) : Int) → LsRel w f xs v9 i w9 := fun i hi => by
  refine ⟨k + 1, PS ++ [(v2, f xs[k])], rowU v2 (f xs[k]) :: L1, hi, hlt, ?_, fun p hp => ?_, ?_, by simp [hl]⟩
  · have e : rowPs v9 (PS ++ [(v2, f xs[k])]) = ⟨58, 1, v9, PS.length + 1, PS.map (·.1) ++ [v2]⟩ := by unfold rowPs; simp
    rw [e]; exact hO
  · rcases List.mem_append.1 hp with hp | hp
    · exact ⟨List.mem_cons_of_mem _ (hps p hp).1, (hps p hp).2⟩
    · rw [List.mem_singleton.1 hp]
      exact ⟨List.mem_cons_self .., hb⟩
  · rw [List.take_succ_eq_append_getElem hlt, List.map_append, List.flatten_append, ← hall]
    unfold allOf
    rw [List.map_append, List.flatten_append]
    simp
theorem LsRel.parts {α : Type} {w wr : World} {f : α → List Int} {xs : List α} {v : Value} {PS : List (Value × List Int)} {L1 : List Rw} (h1 : Own w wr (rowPs v PS :: L1)) (h2 : ∀ p ∈ PS, rowU p.1 p.2 ∈ L1 ∧ Byts p.2) : ∃ a c, v = .slice a PS.length c ∧ Parts wr a PS := by
  obtain ⟨a, c, hv, _, _⟩ := Own.sized (h := (show Own w wr (⟨58, 1, v, PS.length, PS.map (·.1)⟩ :: L1) from h1))
  refine ⟨a, c, hv, fun i hi => ?_⟩
  have h3 : Own w wr (⟨58, 1, v, PS.length, PS.map (·.1)⟩ :: L1) := h1
  obtain ⟨g, cap, e, _⟩ := Own.form (h := h3) (by omega)
  rw [e] at hv h3
  injection hv with e1 _ _
  have hc := Own.cell (h := h3) i (by omega)
  refine ⟨g, 0, e1.symm, ?_, ?_⟩
  · rw [Nat.zero_add, hc, List.getElem?_eq_getElem (by simpa using hi)]
    simp
  · obtain ⟨m1, m2⟩ := h2 _ (List.getElem_mem hi)
    exact (h1.only (List.mem_cons_of_mem _ m1)).by m2
theorem src_oneA (w : World) (u : Value) (T : TypeId) (h : u.oneCell' = true) : Src (w.alloc (.cells #[u] T)) (.slice (some ⟨w.heap.size, 0, none⟩) 1 1) 1 [u] := by
  refine .inr ⟨_, _, rfl, fun j x hj => ?_, fun x hx => by rw [List.mem_singleton.1 hx]; exact h⟩
  rw [Addr.add_mid, Nat.zero_add, World.cell?_alloc_new]
  simpa using hj

set_option maxHeartbeats 8000000 in
theorem need_list (a : Option Addr) (c : Nat) (xs : List NeedD) (f : NeedD → List Int) (w : World) (hS : SlcA w a 3 (xs.map fun x => x.cells)) (hn : xs.length ≤ 1000000)
    (hp : ∀ x ∈ xs, ∀ w', Below w.heap.size w w' → Calls Tryz.prog 38 #[.agg #[.string x.name, .int .i64 x.way, .string x.ver]] w' fun e w'' => ∃ v, e = .returned v ∧ Own w' w'' [rowU v (f x)]) (hb : ∀ x ∈ xs, Byts (f x)) (hl : ((xs.map f).flatten).length < 4294967296) :
    Calls Tryz.prog 37 #[.slice a xs.length c, .func (.func 38) #[] #[]] w fun e w' => ∃ v, e = .returned v ∧ Own w w' [rowU v (sizedL (xs.map f).flatten)] := by
  have Hst := Lib.hid (show LsRel w f xs (.slice none 0 0) (.int .i64 0) w from ⟨0, [], [], rfl, Nat.zero_le _, (Own.start w).nil _ _, (fun p hp => nomatch hp), rfl, rfl⟩)
  have HS := Lib.hid hS
  have HB := Lib.hid hb
  have Hl := Lib.hid hl
  obtain ⟨inf, hi0, hi1, hi2, hi3⟩ := part_infoA
  clear hS hb hl
  go_enter Tryz.func37, Tryz.ntmps37
  go_wp2_with fail
  go_loopw [5, 10] (fun v i wr => LsRel w f xs v i wr) (fun _ i _ => xs.length - (intOf i).toNat)
  case atStart => exact Hst.out
  case round =>
    obtain ⟨k, PS, L1, rfl, hk, hO, hps, hall, hlen⟩ := hrel
    clear Hst
    by_cases hlt : k < xs.length
    · obtain ⟨g, o, rfl, hr⟩ := HS.out.later hO.below k (by rw [List.length_map]; exact hlt)
      rw [List.getElem_map] at hr
      have r0 := hr 0 _ rfl
      have r1 := hr 1 _ rfl
      have r2 := hr 2 _ rfl
      rw [Nat.add_zero] at r0
      obtain ⟨fa, fc, hv, _, _⟩ := Own.sized (h := (show Own w wr (⟨58, 1, u5, PS.length, PS.map (·.1)⟩ :: L1) from hO))
      have Hstep := Lib.hid (fun v9 v2 w9 h => LsRel.step (w := w) (w9 := w9) (f := f) (v9 := v9) (v2 := v2) hlt h hps (HB.out _ (List.getElem_mem hlt)) hall hlen)
      have hcall0 := hp _ (List.getElem_mem hlt)
      have Hb1 := Lib.hid (show PS.length + 1 ≤ maxLen by unfold maxLen; omega)
      have Hb2 := Lib.hid (show (PS.length + 1) * 24 ≤ 140737488355328 by omega)
      clear hr hp hps hall hlen
      generalize f xs[k] = zs at *
      generalize xs[k] = x at *
      have hcall := hcall0 (wr.alloc (.cells #[Value.string x.name, .int .i64 x.way, .string x.ver] 53)) (hO.below.trans (((Below.refl _ wr).alloc (Nat.le_refl _) _).mono hO.below.size))
      have HO := Lib.hid (hO.alloc (.cells #[Value.string x.name, .int .i64 x.way, .string x.ver] 53))
      subst hv
      clear hO hcall0
      go_wp2_with fail
      refine hcall.mono ?_
      rintro e w2 ⟨v2, rfl, hO2⟩
      obtain ⟨a2, n2, c2, rfl⟩ := hO2.formA
      have HO2 := Lib.hid (show Own w (w2.alloc (.cells #[.slice a2 n2 c2] 58)) (⟨58, 1, .slice fa PS.length fc, PS.length, PS.map (·.1)⟩ :: rowU (.slice a2 n2 c2) zs :: L1) from ((HO.out.join hO2).swap).alloc _)
      have Hsrc := Lib.hid (src_oneA w2 (.slice a2 n2 c2) 58 rfl)
      clear hcall hO2 HO
      go_wp2_with (at_builtin; refine wpList_append_src rfl (.tmp 14) (.tmp 18) 78 rfl (.slice fa PS.length fc) PS.length (PS.map (·.1)) (.slice (some ⟨w2.heap.size, 0, none⟩) 1 1) 1 [.slice a2 n2 c2] rfl rfl HO2.out inf (.slice none 0 0) 24 Tryz.underlying78 hi0 hi1 hi2 hi3 rfl (by decide) Hsrc.out rfl Hb1.out Hb2.out ?_)
      intro v9 w9 hO9
      have HX := Lib.hid (Hstep.out _ _ _ hO9)
      obtain ⟨a9, c9, hv9, _, _⟩ := Own.sized (h := hO9)
      subst hv9
      clear hO9 HO2 Hsrc Hb1 Hb2 Hstep
      go_wp2_with fail
      go_roundw
      case rel => exact HX.out _ (by go_num)
      case measure => simp [intOf]; omega
    · obtain ⟨a2, c2, rfl, hparts⟩ := LsRel.parts (f := f) (xs := xs) hO hps
      have hke : k = xs.length := by omega
      rw [hke, List.take_length] at hall
      have hli := list_any a2 c2 PS wr hparts (by unfold maxLen; omega) (by rw [hall]; exact Hl.out)
      rw [hall] at hli
      have HO := Lib.hid hO
      have hkn : ¬ (k : Int) < (xs.length : Int) := by omega
      clear hO hps hall hparts hp hlen hke
      go_wp2_with fail
      refine hli.mono ?_
      rintro e w5 ⟨v5, rfl, hO5⟩
      obtain ⟨a5, n5, c5, rfl⟩ := hO5.formA
      have HO5 := Lib.hid ((HO.out.join hO5).only (r := rowU (.slice a5 n5 c5) (sizedL (xs.map f).flatten)) (by simp))
      clear hO5 hli
      go_wp2_with fail
      go_ret
      exact ⟨_, rfl, HO5.out⟩

set_option maxHeartbeats 8000000 in
theorem str_list (a : Option Addr) (c : Nat) (xs : List ByteArray) (f : ByteArray → List Int) (w : World) (hS : SlcA w a 1 (xs.map fun x => [Value.string x])) (hn : xs.length ≤ 1000000)
    (hp : ∀ x ∈ xs, ∀ w', Below w.heap.size w w' → Calls Tryz.prog 36 #[.string x] w' fun e w'' => ∃ v, e = .returned v ∧ Own w' w'' [rowU v (f x)]) (hb : ∀ x ∈ xs, Byts (f x)) (hl : ((xs.map f).flatten).length < 4294967296) :
    Calls Tryz.prog 39 #[.slice a xs.length c, .func (.func 36) #[] #[]] w fun e w' => ∃ v, e = .returned v ∧ Own w w' [rowU v (sizedL (xs.map f).flatten)] := by
  have Hst := Lib.hid (show LsRel w f xs (.slice none 0 0) (.int .i64 0) w from ⟨0, [], [], rfl, Nat.zero_le _, (Own.start w).nil _ _, (fun p hp => nomatch hp), rfl, rfl⟩)
  have HS := Lib.hid hS
  have HB := Lib.hid hb
  have Hl := Lib.hid hl
  obtain ⟨inf, hi0, hi1, hi2, hi3⟩ := part_infoA
  clear hS hb hl
  go_enter Tryz.func39, Tryz.ntmps39
  go_wp2_with fail
  go_loopw [5, 10] (fun v i wr => LsRel w f xs v i wr) (fun _ i _ => xs.length - (intOf i).toNat)
  case atStart => exact Hst.out
  case round =>
    obtain ⟨k, PS, L1, rfl, hk, hO, hps, hall, hlen⟩ := hrel
    clear Hst
    by_cases hlt : k < xs.length
    · obtain ⟨g, o, rfl, hr⟩ := HS.out.later hO.below k (by rw [List.length_map]; exact hlt)
      rw [List.getElem_map] at hr
      rw [Nat.mul_one] at hr
      have r0 := hr 0 _ rfl
      rw [Nat.add_zero] at r0
      obtain ⟨fa, fc, hv, _, _⟩ := Own.sized (h := (show Own w wr (⟨58, 1, u5, PS.length, PS.map (·.1)⟩ :: L1) from hO))
      have Hstep := Lib.hid (fun v9 v2 w9 h => LsRel.step (w := w) (w9 := w9) (f := f) (v9 := v9) (v2 := v2) hlt h hps (HB.out _ (List.getElem_mem hlt)) hall hlen)
      have hcall0 := hp _ (List.getElem_mem hlt)
      have Hb1 := Lib.hid (show PS.length + 1 ≤ maxLen by unfold maxLen; omega)
      have Hb2 := Lib.hid (show (PS.length + 1) * 24 ≤ 140737488355328 by omega)
      clear hr hp hps hall hlen
      generalize f xs[k] = zs at *
      generalize xs[k] = x at *
      have hcall := hcall0 wr hO.below
      have HO := Lib.hid hO
      subst hv
      clear hO hcall0
      go_wp2_with fail
      refine hcall.mono ?_
      rintro e w2 ⟨v2, rfl, hO2⟩
      obtain ⟨a2, n2, c2, rfl⟩ := hO2.formA
      have HO2 := Lib.hid (show Own w (w2.alloc (.cells #[.slice a2 n2 c2] 58)) (⟨58, 1, .slice fa PS.length fc, PS.length, PS.map (·.1)⟩ :: rowU (.slice a2 n2 c2) zs :: L1) from ((HO.out.join hO2).swap).alloc _)
      have Hsrc := Lib.hid (src_oneA w2 (.slice a2 n2 c2) 58 rfl)
      clear hcall hO2 HO
      go_wp2_with (at_builtin; refine wpList_append_src rfl (.tmp 14) (.tmp 18) 78 rfl (.slice fa PS.length fc) PS.length (PS.map (·.1)) (.slice (some ⟨w2.heap.size, 0, none⟩) 1 1) 1 [.slice a2 n2 c2] rfl rfl HO2.out inf (.slice none 0 0) 24 Tryz.underlying78 hi0 hi1 hi2 hi3 rfl (by decide) Hsrc.out rfl Hb1.out Hb2.out ?_)
      intro v9 w9 hO9
      have HX := Lib.hid (Hstep.out _ _ _ hO9)
      obtain ⟨a9, c9, hv9, _, _⟩ := Own.sized (h := hO9)
      subst hv9
      clear hO9 HO2 Hsrc Hb1 Hb2 Hstep
      go_wp2_with fail
      go_roundw
      case rel => exact HX.out _ (by go_num)
      case measure => simp [intOf]; omega
    · obtain ⟨a2, c2, rfl, hparts⟩ := LsRel.parts (f := f) (xs := xs) hO hps
      have hke : k = xs.length := by omega
      rw [hke, List.take_length] at hall
      have hli := list_any a2 c2 PS wr hparts (by unfold maxLen; omega) (by rw [hall]; exact Hl.out)
      rw [hall] at hli
      have HO := Lib.hid hO
      have hkn : ¬ (k : Int) < (xs.length : Int) := by omega
      clear hO hps hall hparts hp hlen hke
      go_wp2_with fail
      refine hli.mono ?_
      rintro e w5 ⟨v5, rfl, hO5⟩
      obtain ⟨a5, n5, c5, rfl⟩ := hO5.formA
      have HO5 := Lib.hid ((HO.out.join hO5).only (r := rowU (.slice a5 n5 c5) (sizedL (xs.map f).flatten)) (by simp))
      clear hO5 hli
      go_wp2_with fail
      go_ret
      exact ⟨_, rfl, HO5.out⟩

set_option maxHeartbeats 8000000 in
theorem file_list (a : Option Addr) (c : Nat) (xs : List FileD) (f : FileD → List Int) (w : World) (hS : SlcA w a 3 (xs.map fun x => x.cells)) (hn : xs.length ≤ 1000000)
    (hp : ∀ x ∈ xs, ∀ w', Below w.heap.size w w' → Calls Tryz.prog 41 #[.agg #[.string x.path, .bool x.config, .slice x.a x.data.length x.c]] w' fun e w'' => ∃ v, e = .returned v ∧ Own w' w'' [rowU v (f x)]) (hb : ∀ x ∈ xs, Byts (f x)) (hl : ((xs.map f).flatten).length < 4294967296) :
    Calls Tryz.prog 40 #[.slice a xs.length c, .func (.func 41) #[] #[]] w fun e w' => ∃ v, e = .returned v ∧ Own w w' [rowU v (sizedL (xs.map f).flatten)] := by
  have Hst := Lib.hid (show LsRel w f xs (.slice none 0 0) (.int .i64 0) w from ⟨0, [], [], rfl, Nat.zero_le _, (Own.start w).nil _ _, (fun p hp => nomatch hp), rfl, rfl⟩)
  have HS := Lib.hid hS
  have HB := Lib.hid hb
  have Hl := Lib.hid hl
  obtain ⟨inf, hi0, hi1, hi2, hi3⟩ := part_infoA
  clear hS hb hl
  go_enter Tryz.func40, Tryz.ntmps40
  go_wp2_with fail
  go_loopw [5, 10] (fun v i wr => LsRel w f xs v i wr) (fun _ i _ => xs.length - (intOf i).toNat)
  case atStart => exact Hst.out
  case round =>
    obtain ⟨k, PS, L1, rfl, hk, hO, hps, hall, hlen⟩ := hrel
    clear Hst
    by_cases hlt : k < xs.length
    · obtain ⟨g, o, rfl, hr⟩ := HS.out.later hO.below k (by rw [List.length_map]; exact hlt)
      rw [List.getElem_map] at hr
      have r0 := hr 0 _ rfl
      have r1 := hr 1 _ rfl
      have r2 := hr 2 _ rfl
      rw [Nat.add_zero] at r0
      obtain ⟨fa, fc, hv, _, _⟩ := Own.sized (h := (show Own w wr (⟨58, 1, u5, PS.length, PS.map (·.1)⟩ :: L1) from hO))
      have Hstep := Lib.hid (fun v9 v2 w9 h => LsRel.step (w := w) (w9 := w9) (f := f) (v9 := v9) (v2 := v2) hlt h hps (HB.out _ (List.getElem_mem hlt)) hall hlen)
      have hcall0 := hp _ (List.getElem_mem hlt)
      have Hb1 := Lib.hid (show PS.length + 1 ≤ maxLen by unfold maxLen; omega)
      have Hb2 := Lib.hid (show (PS.length + 1) * 24 ≤ 140737488355328 by omega)
      clear hr hp hps hall hlen
      generalize f xs[k] = zs at *
      generalize xs[k] = x at *
      have hcall := hcall0 (wr.alloc (.cells #[Value.string x.path, .bool x.config, .slice x.a x.data.length x.c] 51)) (hO.below.trans (((Below.refl _ wr).alloc (Nat.le_refl _) _).mono hO.below.size))
      have HO := Lib.hid (hO.alloc (.cells #[Value.string x.path, .bool x.config, .slice x.a x.data.length x.c] 51))
      subst hv
      clear hO hcall0
      go_wp2_with fail
      refine hcall.mono ?_
      rintro e w2 ⟨v2, rfl, hO2⟩
      obtain ⟨a2, n2, c2, rfl⟩ := hO2.formA
      have HO2 := Lib.hid (show Own w (w2.alloc (.cells #[.slice a2 n2 c2] 58)) (⟨58, 1, .slice fa PS.length fc, PS.length, PS.map (·.1)⟩ :: rowU (.slice a2 n2 c2) zs :: L1) from ((HO.out.join hO2).swap).alloc _)
      have Hsrc := Lib.hid (src_oneA w2 (.slice a2 n2 c2) 58 rfl)
      clear hcall hO2 HO
      go_wp2_with (at_builtin; refine wpList_append_src rfl (.tmp 14) (.tmp 18) 78 rfl (.slice fa PS.length fc) PS.length (PS.map (·.1)) (.slice (some ⟨w2.heap.size, 0, none⟩) 1 1) 1 [.slice a2 n2 c2] rfl rfl HO2.out inf (.slice none 0 0) 24 Tryz.underlying78 hi0 hi1 hi2 hi3 rfl (by decide) Hsrc.out rfl Hb1.out Hb2.out ?_)
      intro v9 w9 hO9
      have HX := Lib.hid (Hstep.out _ _ _ hO9)
      obtain ⟨a9, c9, hv9, _, _⟩ := Own.sized (h := hO9)
      subst hv9
      clear hO9 HO2 Hsrc Hb1 Hb2 Hstep
      go_wp2_with fail
      go_roundw
      case rel => exact HX.out _ (by go_num)
      case measure => simp [intOf]; omega
    · obtain ⟨a2, c2, rfl, hparts⟩ := LsRel.parts (f := f) (xs := xs) hO hps
      have hke : k = xs.length := by omega
      rw [hke, List.take_length] at hall
      have hli := list_any a2 c2 PS wr hparts (by unfold maxLen; omega) (by rw [hall]; exact Hl.out)
      rw [hall] at hli
      have HO := Lib.hid hO
      have hkn : ¬ (k : Int) < (xs.length : Int) := by omega
      clear hO hps hall hparts hp hlen hke
      go_wp2_with fail
      refine hli.mono ?_
      rintro e w5 ⟨v5, rfl, hO5⟩
      obtain ⟨a5, n5, c5, rfl⟩ := hO5.formA
      have HO5 := Lib.hid ((HO.out.join hO5).only (r := rowU (.slice a5 n5 c5) (sizedL (xs.map f).flatten)) (by simp))
      clear hO5 hli
      go_wp2_with fail
      go_ret
      exact ⟨_, rfl, HO5.out⟩
end Go.Proofs.YtihnjhigemhknaaGreatDoor
