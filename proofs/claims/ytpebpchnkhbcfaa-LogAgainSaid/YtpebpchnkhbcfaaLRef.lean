/- Why records can't be kept, if they can't. -/
import Derived.Test.YtpebpchnkhbcfaaLKeep
namespace Go.Proofs.Ytpebpchnkhbcfaa
open Go.RowKit
set_option linter.unusedVariables false
set_option linter.unusedSimpArgs false

open Classical in
noncomputable def refM (dead down : Bool) (room : Nat) (recs : List (List Int)) : Int :=
  if (dead || down) = true then 3 else if ∃ b ∈ recs, 4096 < b.length then 6 else if room < (secsB recs).length then 7 else 0
theorem secsB_take (recs : List (List Int)) (k : Nat) (h : k < recs.length) : (secsB (recs.take (k + 1))).length = (secsB (recs.take k)).length + roomM (recs[k]).length := by
  rw [List.take_succ_eq_append_getElem h, secsB_append, List.length_append, secsB_one, layB_length]
theorem secsB_bound (recs : List (List Int)) (k : Nat) (h : k ≤ recs.length) (hl : ∀ b ∈ recs.take k, b.length ≤ 4096) : (secsB (recs.take k)).length ≤ k * 66 := by
  induction k with
  | zero => simp [secsB]
  | succ k ih =>
    have hlt : k < recs.length := by omega
    rw [secsB_take recs k hlt]
    have h1 := ih (by omega) (fun b hb => hl b (List.mem_of_mem_take (i := k) (by rw [List.take_take, Nat.min_eq_left (by omega)]; exact hb)))
    have h2 : recs[k].length ≤ 4096 := hl _ (by rw [List.take_succ_eq_append_getElem hlt]; exact List.mem_append_right _ (List.mem_singleton.2 rfl))
    have h3 : roomM recs[k].length ≤ 66 := by unfold roomM; omega
    omega
theorem LgAt.kill {W0 : Base} {w : World} {l d : Nat} {D : Dk} {side used : Nat} {recs : List (List Int)} {dead : Bool} {L : List Rw} (h : LgAt W0 w l d D side used recs dead L) (b : Bool) : LgAt W0 (w.setCell ⟨l, 4, none⟩ (.bool b)) l d D side used recs b L := by
  obtain ⟨lv, vs, M, h1, h2⟩ := h.rest
  exact ⟨h.six, h.sides, h.fit, lv, vs, M, DkAt.onSet (h := h1) 4 (.bool b), h2⟩
theorem Parts.form {w : World} {a : Option Addr} {PS : List (Value × List Int)} (h : Parts w a PS) (i : Nat) (hi : i < PS.length) : ∃ g o x c, a = some ⟨g, o, none⟩ ∧ w.cell? ⟨g, o + i, none⟩ = some (.slice x (PS[i].2).length c) ∧ PS[i].1 = .slice x (PS[i].2).length c ∧ (PS[i].2).length ≤ c ∧ c ≤ maxLen := by
  obtain ⟨g, o, ha, hc, _, _, x, c, hv, h1, h2⟩ := h i hi
  exact ⟨g, o, x, c, ha, by rw [hc, hv], hv, h1, h2⟩

set_option maxHeartbeats 3200000 in
set_option maxRecDepth 100000 in
theorem refused_lg {W0 : Base} {w : World} {l d : Nat} {D : Dk} {side used : Nat} {recs : List (List Int)} {dead : Bool} {L : List Rw} (h : LgAt W0 w l d D side used recs dead L) (room : Nat) (hroom : room ≤ 4096) (a : Option Addr) (c : Nat) (PS : List (Value × List Int)) (hP : ∀ w', Own W0 w' L → Parts w' a PS) (hn : PS.length ≤ 1000000) :
    Calls Try.prog 26 #[.pointer (some ⟨l, 0, none⟩), .int .i64 room, .slice a PS.length c] w fun e w' => e = .returned (.int .i64 (refM dead D.down room (PS.map (·.2)))) ∧ LgAt W0 w' l d D side used recs (dead || D.down) L := by
  obtain ⟨c0, c1, c2, c4, cf, cl⟩ := h.cells
  have f4 := cf 4
  obtain ⟨L', hd⟩ := h.disk
  have Hdn := Lib.hid (down_any W0 w d D L' hd)
  have HA := Lib.hid (h.kill (dead || D.down))
  obtain ⟨b, hb⟩ : ∃ b, (dead || D.down) = b := ⟨_, rfl⟩
  have HB := Lib.hid hb
  rw [hb] at HA
  obtain ⟨w1, hw1⟩ : ∃ w1, w.setCell ⟨l, 4, none⟩ (.bool b) = w1 := ⟨_, rfl⟩
  rw [hw1] at HA
  have k4 : w1.cell? ⟨l, 4, none⟩ = some (.bool b) := HA.out.cells.2.2.2.1
  have HP := Lib.hid (hP w1 HA.out.own)
  have HR := Lib.hid (show refM dead D.down room (PS.map (·.2)) = (open Classical in if b = true then 3 else if ∃ x ∈ PS.map (·.2), 4096 < x.length then 6 else if room < (secsB (PS.map (·.2))).length then 7 else 0) by unfold refM; rw [hb])
  have hpick : (if dead = true then true else D.down) = b := by rw [← hb]; cases dead <;> rfl
  have HW1 := Lib.hid hw1
  clear h hd hb cf hP hw1
  go_enter Try.func26, Try.ntmps26
  go_upto_region 1 with (fail)
  go_cut [] (fun wc => wc = w1)
  case first =>
    cases dead
    · have hpick' : D.down = b := by rw [← HB.out]; rfl
      rw [hpick'] at Hdn
      have HW1 := HW1
      clear hpick hpick' HR
      go_wp2_with fail
      refine Hdn.out.mono ?_
      rintro e w' ⟨rfl, rfl⟩
      go_wp2_with fail
      go_meet
      exact HW1.out
    · obtain rfl : true = b := by rw [← HB.out]; rfl
      clear hpick HR
      go_wp2_with fail
      go_meet
      exact HW1.out
  case rest =>
    subst hcut
    clear HW1 Hdn hpick c0 c1 c2 c4 f4 cl
    cases b
    · have HR2 := Lib.hid HR.out
      rw [if_neg (by decide)] at HR2
      go_wp2_with fail
      go_loop [7, 30] (fun t i => ∃ k : Nat, k ≤ PS.length ∧ i = .int .i64 k ∧ t = .int .i64 ((secsB ((PS.map (·.2)).take k)).length : Int) ∧ ∀ x ∈ (PS.map (·.2)).take k, x.length ≤ 4096) (fun _ i => PS.length - (intOf i).toNat)
      case atStart => exact ⟨0, Nat.zero_le _, rfl, by simp [secsB], by simp⟩
      case round =>
        obtain ⟨k, hk, rfl, rfl, hall⟩ := hrel
        by_cases hlt : k < PS.length
        · obtain ⟨g, o, x, c', rfl, hc, _, _, _⟩ := HP.out.form k hlt
          have hlm : k < (PS.map (·.2)).length := by simpa using hlt
          have hS := secsB_take (PS.map (·.2)) k hlm
          have hB := secsB_bound (PS.map (·.2)) k (by omega) hall
          have hget : (PS.map (·.2))[k] = PS[k].2 := by rw [List.getElem_map]
          have hT : (PS.map (·.2)).take (k + 1) = (PS.map (·.2)).take k ++ [PS[k].2] := by rw [List.take_succ_eq_append_getElem hlm, hget]
          rw [hget] at hS
          have hmem : PS[k].2 ∈ PS.map (·.2) := List.mem_map_of_mem (List.getElem_mem hlt)
          have HS := Lib.hid hS
          have HT := Lib.hid hT
          have Hall := Lib.hid hall
          have Hmem := Lib.hid hmem
          generalize (secsB ((PS.map (·.2)).take k)).length = m at *
          generalize PS[k].2 = zs at *
          clear hS hT hall hget hlm hmem
          by_cases hz : 4096 < zs.length
          · have HE := Lib.hid (show ∃ x, x ∈ PS.map (·.2) ∧ 4096 < x.length from ⟨zs, Hmem.out, hz⟩)
            go_wp2_with fail
            go_ret
            exact ⟨by rw [HR2.out, if_pos HE.out]; rfl, by rw [HB.out]; exact HA.out⟩
          · have hzn : zs.length ≤ 140737488355328 := by omega
            have hrb : roomM zs.length ≤ 66 := by unfold roomM; omega
            go_wp2_with (go_at_call 16; refine (room_any zs.length _ hzn).mono ?_; rintro e w' ⟨rfl, rfl⟩)
            exact ⟨⟨k + 1, by omega, by go_num, by rw [HS.out]; go_num, fun y hy => by
              rw [HT.out] at hy
              rcases List.mem_append.1 hy with h1 | h1
              · exact Hall.out y h1
              · rw [List.mem_singleton.1 h1]; omega⟩, by simp [intOf]; omega⟩
        · obtain rfl : k = PS.length := by omega
          rw [List.take_of_length_le (by simp)] at hall
          have hB := secsB_bound (PS.map (·.2)) PS.length (by simp) (by rw [List.take_of_length_le (by simp)]; exact hall)
          rw [List.take_of_length_le (by simp)] at hB ⊢
          have hno : ¬ ∃ x, x ∈ PS.map (·.2) ∧ 4096 < x.length := fun ⟨x, h1, h2⟩ => by have := hall x h1; omega
          have HN := Lib.hid hno
          clear hall hno
          generalize (secsB (PS.map (·.2))).length = m at *
          by_cases hfu : room < m
          · have HE := Lib.hid hfu
            go_wp2_with fail
            go_ret
            exact ⟨by rw [HR2.out, if_neg HN.out, if_pos HE.out]; rfl, by rw [HB.out]; exact HA.out⟩
          · have HE := Lib.hid hfu
            go_wp2_with fail
            go_ret
            exact ⟨by rw [HR2.out, if_neg HN.out, if_neg HE.out]; rfl, by rw [HB.out]; exact HA.out⟩
    · have HR2 := Lib.hid HR.out
      rw [if_pos rfl] at HR2
      go_wp2_with fail
      go_ret
      exact ⟨by rw [HR2.out]; rfl, by rw [HB.out]; exact HA.out⟩
end Go.Proofs.Ytpebpchnkhbcfaa
