/- The document's example of a log holds of the program; the call makes memory alone. -/
import Derived.Test.YtpebpchnkhbcfaaLLive
import Derived.Lib.SlBytesConst
namespace Go.Proofs.Ytpebpchnkhbcfaa
open Go.RowKit
set_option linter.unusedVariables false
set_option linter.unusedSimpArgs false

theorem LgAt.withDisk {W0 : Base} {w w' : World} {l d : Nat} {D D' : Dk} {side used : Nat} {recs : List (List Int)} {dead : Bool} {L : List Rw} (h : LgAt W0 w l d D side used recs dead L) (hd : ∀ L', DkAt W0 w d D L' → DkAt W0 w' d D' L') (hl : D'.last.length = D.last.length) : LgAt W0 w' l d D' side used recs dead L := by
  obtain ⟨lv, vs, M, h1, h2⟩ := h.rest
  exact ⟨by rw [hl]; exact h.six, h.sides, by rw [hl]; exact h.fit, lv, vs, M, hd _ h1, h2⟩
/-- A call of the disk, beside the log. -/
theorem LgAt.diskCall {W0 : Base} {w : World} {l d : Nat} {D : Dk} {side used : Nat} {recs : List (List Int)} {dead : Bool} {L : List Rw} (h : LgAt W0 w l d D side used recs dead L) : ∃ L', DkAt W0 w d D L' ∧ ∀ w' D', DkAt W0 w' d D' L' → D'.last.length = D.last.length → LgAt W0 w' l d D' side used recs dead L := by
  obtain ⟨lv, vs, M, h1, h2⟩ := h.rest
  exact ⟨_, h1, fun w' D' h3 hl => ⟨by rw [hl]; exact h.six, h.sides, by rw [hl]; exact h.fit, lv, vs, M, h3, h2⟩⟩
/-- Bytes in a row of the call's own. -/
theorem row_by {W0 : Base} {L : List Rw} {v : Value} {zs : List Int} (hm : rowU v zs ∈ L) (hz : Byts zs) : ∀ w', Own W0 w' L → By w' v zs := fun w' h => (h.only hm).by hz
/-- A text's bytes, laid down for good. -/
theorem Own.fix {W0 : Base} {w : World} {L : List Rw} (h : Own W0 w L) (o : Obj) : Own ⟨W0.world, (w.heap.size, o) :: W0.maps⟩ (w.alloc o) L := by
  have ha := h.alloc o
  refine ⟨ha.below, ha.rows, ha.apart, fun m hm => ?_, fun m hm p hp => ?_⟩
  · rcases List.mem_cons.1 hm with rfl | hm
    · exact ⟨h.size, heap_alloc_new w o⟩
    · exact ha.maps m hm
  · rcases List.mem_cons.1 hm with rfl | hm
    · intro e
      have := (h.lt hp e).2
      omega
    · exact ha.offmaps m hm p hp
theorem DkAt.fix {W0 : Base} {w : World} {d : Nat} {D : Dk} {L : List Rw} (h : DkAt W0 w d D L) (o : Obj) : DkAt ⟨W0.world, (w.heap.size, o) :: W0.maps⟩ (w.alloc o) d D L := by
  obtain ⟨h1, kb, lb, n, sv, h2, h3⟩ := h
  exact ⟨h1, kb, lb, n, sv, h2, h3.fix o⟩
theorem LgAt.fix {W0 : Base} {w : World} {l d : Nat} {D : Dk} {side used : Nat} {recs : List (List Int)} {dead : Bool} {L : List Rw} (h : LgAt W0 w l d D side used recs dead L) (o : Obj) : LgAt ⟨W0.world, (w.heap.size, o) :: W0.maps⟩ (w.alloc o) l d D side used recs dead L := by
  obtain ⟨lv, vs, M, h1, h2⟩ := h.rest
  exact ⟨h.six, h.sides, h.fit, lv, vs, M, h1.fix o, h2⟩
/-- Such bytes are there in whatever world. -/
theorem by_block {w : World} {g : Nat} {C : Array Value} {T : TypeId} {mk : Nat × Nat} {zs : List Int} (h : w.heap[g]? = some (.cells C T mk)) (hC : C.toList = bs zs) (hz : Byts zs) (hl : zs.length ≤ 1000) : By w (.slice (some ⟨g, 0, none⟩) zs.length zs.length) zs := by
  refine ⟨.inr ⟨_, _, rfl, fun j u hj => ?_, bs_one _⟩, hz, _, zs.length, rfl, Nat.le_refl _, by unfold maxLen; omega⟩
  rw [Addr.add_mid, Nat.zero_add, cell_of_block h, ← hj, ← hC]
  simp
theorem fix_by {W0 : Base} {L : List Rw} {g : Nat} {C : Array Value} {T : TypeId} {mk : Nat × Nat} {zs : List Int} (hm : (g, Obj.cells C T mk) ∈ W0.maps) (hC : C.toList = bs zs) (hz : Byts zs) (hl : zs.length ≤ 1000) : ∀ w', Own W0 w' L → By w' (.slice (some ⟨g, 0, none⟩) zs.length zs.length) zs :=
  fun w' h => by_block (h.maps _ hm).2 hC hz hl
theorem conv_const (W : World) (C : Array Value) (n c : Nat) : Sem.run Try.prog (convert 30 30 (.slice (some ⟨W.heap.size, 0, none⟩) n c)) (W.alloc (.cells C 5)) = .ok (.slice (some ⟨W.heap.size, 0, none⟩) n c) (W.alloc (.cells C 5 (C.size, C.size + 1))) := Lib.run_convert_bytes_const W 30 5 C n c Try.underlying30 Try.underlying5
def one3 : List Int := [111, 110, 101]
def two3 : List Int := [116, 119, 111]
theorem one3_byts : Byts one3 := by unfold Byts one3; decide
theorem two3_byts : Byts two3 := by unfold Byts two3; decide
theorem one3_str : strOfNums one3 = { data := #[111, 110, 101] } := rfl

set_option maxHeartbeats 3200000 in
set_option maxRecDepth 100000 in
theorem alive_any (w : World) : Calls Try.prog 7 #[] w fun e w' => e = .returned (.bool true) ∧ Below w.heap.size w w' := by
  have hcs := conv_const
  go_enter Try.func7, Try.ntmps7
  go_wp2_with fail
  refine (new_pos w w [] 20 (Own.start w) (by decide) (by decide)).mono ?_
  rintro e w1 ⟨d, rfl, hA1⟩
  have HA1 := Lib.hid hA1
  clear hA1
  go_wp2_with fail
  refine (open_new HA1.out (by decide) (by decide)).mono ?_
  rintro e w2 ⟨l, D, rfl, hA2, hV2, hl2⟩
  have HA2 := Lib.hid hA2
  have HV2 := Lib.hid hV2
  have Hl2 := Lib.hid hl2
  clear hA2 hV2 hl2 HA1
  go_wp2_with fail
  have HA2f := Lib.hid (HA2.out.fix (.cells #[.int .u8 111, .int .u8 110, .int .u8 101] 5 (3, 4)))
  refine (append_yes HA2f.out HV2.out (by decide) (.slice (some ⟨w2.heap.size, 0, none⟩) 3 3) one3 (fix_by (List.mem_cons_self ..) rfl one3_byts (by decide)) (by decide) (by decide)).mono ?_
  rintro e w3 (⟨D3, rfl, hA3, hV3, hl3⟩ | ⟨_, h, _⟩)
  case inr => exact absurd Hl2.out h
  have HA3 := Lib.hid hA3
  have HV3 := Lib.hid hV3
  clear hA3 hV3 hl3 HA2 HV2 Hl2 HA2f
  obtain ⟨L3, hd3, hb3⟩ := HA3.out.diskCall
  have Hd3 := Lib.hid hd3
  have Hb3 := Lib.hid hb3
  clear hd3 hb3
  go_wp2_with fail
  refine (crash_any _ w3 d D3 L3 0 Hd3.out (by decide) (by decide)).mono ?_
  rintro e w4 ⟨rfl, hA4⟩
  obtain ⟨q1, q2, q3, q4, q5⟩ := crash_clean D3 HV3.out.clean 0
  have HA4 := Lib.hid (Hb3.out w4 _ hA4 (by rw [q2]))
  have HQ := Lib.hid (show Clean (crashM D3 0) ∧ (crashM D3 0).last = D3.last ∧ (crashM D3 0).down = true ∧ (crashM D3 0).left = 0 ∧ (crashM D3 0).steps = D3.steps from ⟨q1, q2, q3, q4, q5⟩)
  generalize crashM D3 0 = D4 at *
  clear hA4 Hb3 Hd3 HA3 q1 q2 q3 q4 q5
  go_wp2_with fail
  have HA4f := Lib.hid (HA4.out.fix (.cells #[.int .u8 116, .int .u8 119, .int .u8 111] 5 (3, 4)))
  refine (append_down HA4f.out (.slice (some ⟨w4.heap.size, 0, none⟩) 3 3) two3 (fix_by (List.mem_cons_self ..) rfl two3_byts (by decide)) (by decide) HQ.out.1 (by have := HV3.out.steps; rw [HQ.out.2.2.2.2]; omega) (by rw [HQ.out.2.2.1]; rfl)).mono ?_
  rintro e w5 ⟨rfl, hA5⟩
  obtain ⟨L5, hd5, hb5⟩ := hA5.diskCall
  have Hd5 := Lib.hid hd5
  clear hd5 hb5 hA5 HA4 HA4f
  go_wp2_with fail
  refine (on_any _ w5 d D4 L5 Hd5.out).mono ?_
  rintro e w6 ⟨rfl, hA6⟩
  have HA6 := Lib.hid hA6
  have hV6 : Live (onM D4) 20 9 0 1 [one3] 103 := ⟨⟨HQ.out.1.1, HQ.out.1.2⟩, rfl, by show D4.last.length = 20; rw [HQ.out.2.1]; exact HV3.out.len, rfl, by show Holds D4.last _ _ _ _; rw [HQ.out.2.1]; exact HV3.out.holds, by show D4.steps ≤ _; rw [HQ.out.2.2.2.2]; exact HV3.out.steps⟩
  have HV6 := Lib.hid hV6
  clear hA6 hV6 Hd5 HQ HV3
  generalize onM D4 = D6 at *
  go_wp2_with fail
  refine (open_live HA6.out HV6.out).mono ?_
  rintro e w7 ⟨l7, rfl, hA7⟩
  have HA7 := Lib.hid hA7
  clear hA7 HA6
  go_wp2_with fail
  refine (list_any HA7.out HV6.out.holds.all (by decide)).mono ?_
  rintro e w8 ⟨lv, vs, M, rfl, hO8, hL8⟩
  have HA8 := Lib.hid (HA7.out.join hO8)
  obtain ⟨a8, c8, rfl, hP8, _⟩ := hL8.parts hO8.tail hO8
  have hvl : vs.length = 1 := hL8.1
  obtain ⟨v8, rfl⟩ : ∃ v8, vs = [v8] := by
    match vs, hvl with
    | [x], _ => exact ⟨x, rfl⟩
  obtain ⟨g, o, x, c, rfl, hc, hv, _, _⟩ := hP8.form 0 (by simp)
  have hby8 : By w8 v8 one3 := by
    obtain ⟨_, _, _, _, hq⟩ := hP8 0 (by simp)
    exact hq
  have hv : v8 = .slice x 3 c := hv
  have hc : w8.cell? ⟨g, o, none⟩ = some (.slice x 3 c) := hc
  rw [hv] at hby8
  have hcv := hby8.toStr
  rw [one3_str] at hcv
  have Hlf := Lib.hid (left_any HA8.out)
  have hl20 : D6.last.length = 20 := HV6.out.len
  rw [hl20] at Hlf
  clear hP8 hL8 hO8 hv hby8 HA7 hl20
  go_wp2_with (first
    | (go_at_call 14; refine Hlf.out.mono ?_; rintro e w' ⟨rfl, n, rfl⟩)
    | (go_at_call_of 16 (47 : Int); refine (room_any 47 _ (by decide)).mono ?_; rintro e w' ⟨rfl, rfl⟩)
    | (go_at_call_of 16 (48 : Int); refine (room_any 48 _ (by decide)).mono ?_; rintro e w' ⟨rfl, rfl⟩))
  go_ret
  exact ⟨rfl, (HA8.out.drewN (n := n)).below⟩
end Go.Proofs.Ytpebpchnkhbcfaa
