/- A log's sectors are written, and its root behind them. -/
import Derived.Test.YtpebpchnkhbcfaaLRoot
namespace Go.Proofs.Ytpebpchnkhbcfaa
open Go.RowKit
set_option linter.unusedVariables false
set_option linter.unusedSimpArgs false

theorem log_cells_mem {W0 : Base} {w : World} {l d : Nat} {D : Dk} {side used : Nat} {lv : Value} {dead : Bool} {L : List Rw} (h : DkAt W0 w d D L) (hm : rowLog l d side used lv dead ∈ L) :
    w.cell? ⟨l, 0, none⟩ = some (.pointer (some ⟨d, 0, none⟩)) ∧ w.cell? ⟨l, 1, none⟩ = some (.int .i64 side) ∧ w.cell? ⟨l, 2, none⟩ = some (.int .i64 used) ∧ w.cell? ⟨l, 3, none⟩ = some lv ∧ w.cell? ⟨l, 4, none⟩ = some (.bool dead) := by
  have h1 := h.own.only hm
  exact ⟨Own.cell (h := h1) 0 (by decide), Own.cell (h := h1) 1 (by decide), Own.cell (h := h1) 2 (by decide), Own.cell (h := h1) 3 (by decide), Own.cell (h := h1) 4 (by decide)⟩
theorem writeM_bounds (D : Dk) (x : Int) (s : List Value) : (writeM D x s).1.steps ≤ D.steps + 1 ∧ (writeM D x s).1.since.length ≤ D.since.length + 1 ∧ (writeM D x s).1.last.length = D.last.length := by
  unfold writeM
  split
  · exact ⟨by show D.steps ≤ _; omega, by show D.since.length ≤ _; omega, rfl⟩
  · have h1 := stepM_bounds (putM D x.toNat s)
    have hl : (stepM (putM D x.toNat s)).1.last.length = (putM D x.toNat s).last.length := by
      unfold stepM
      split
      · rfl
      · simp only
        split
        · rfl
        · exact lastTo_length _ _ _
    refine ⟨?_, ?_, ?_⟩
    · rw [h1.1]; show D.steps + 1 ≤ _; omega
    · refine Nat.le_trans h1.2.1 ?_
      show (D.since ++ [_]).length ≤ _
      simp
    · rw [hl]; show (D.last.set _ _).length = _; rw [List.length_set]
theorem writesM_cons (D : Dk) (q : Nat) (s : List Value) (r : List (List Value)) : writesM D q (s :: r) = if (writeM D (q : Int) s).2 ≠ 0 then writeM D (q : Int) s else writesM (writeM D (q : Int) s).1 (q + 1) r := rfl
/-- A list of sectors that lies in a row of the call's own, or none. -/
def SecsIn (L : List Rw) (a : Option Addr) (ws : List (List Value)) : Prop := 0 < ws.length → ∃ g cp, a = some ⟨g, 0, none⟩ ∧ (⟨55, 64, .slice (some ⟨g, 0, none⟩) ws.length cp, ws.length, ws.flatten⟩ : Rw) ∈ L
theorem SecsIn.mono {L L' : List Rw} {a : Option Addr} {ws : List (List Value)} (h : SecsIn L a ws) (hs : ∀ r ∈ L, r ∈ L') : SecsIn L' a ws := fun hp => by
  obtain ⟨g, cp, h1, h2⟩ := h hp
  exact ⟨g, cp, h1, hs _ h2⟩

set_option maxHeartbeats 3200000 in
set_option maxRecDepth 100000 in
theorem write_dk {W0 : Base} {w : World} {l d : Nat} {D : Dk} {side used : Nat} {lv : Value} {dead : Bool} {L : List Rw} (h : DkAt W0 w d D L) (hm : rowLog l d side used lv dead ∈ L) (at_ : Nat) (a : Option Addr) (c : Nat) (ws : List (List Value))
    (hL : SecsIn L a ws) (hsec : ∀ s ∈ ws, isSec s) (hat : at_ ≤ 100000) (hn : ws.length ≤ 10000) (hst : D.steps ≤ 4611686018427387904) (hsi : D.since.length ≤ 900000) :
    Calls Try.prog 38 #[.pointer (some ⟨l, 0, none⟩), .int .i64 at_, .slice a ws.length c] w fun e w' => e = .returned (.int .i64 (writesM D at_ ws).2) ∧ DkAt W0 w' d (writesM D at_ ws).1 L := by
  have hzs := zero_sector
  have Hm := Lib.hid hm
  have HL := Lib.hid hL
  have Hsec := Lib.hid hsec
  have H0 := Lib.hid h
  have Hst := Lib.hid hst
  have Hsi := Lib.hid hsi
  clear h hm hL hsec hst hsi
  go_enter Try.func38, Try.ntmps38
  go_wp2_with fail
  go_loopw [12] (fun t wr => ∃ (i : Nat) (D' : Dk), i ≤ ws.length ∧ t = .int .i64 i ∧ DkAt W0 wr d D' L ∧ writesM D at_ ws = writesM D' (at_ + i) (ws.drop i) ∧ D'.steps ≤ D.steps + i ∧ D'.since.length ≤ D.since.length + i) (fun t _ => ws.length - (intOf t).toNat)
  case atStart => exact ⟨0, D, Nat.zero_le _, rfl, H0.out, by simp, by simp, by simp⟩
  case round =>
    obtain ⟨i, D1, hi, rfl, hA, hE, hs1, hs2⟩ := hrel
    by_cases hlt : i < ws.length
    · obtain ⟨g, cp, rfl, hrow⟩ := HL.out (by omega)
      have hs := Hsec.out _ (List.getElem_mem hlt)
      have hr := Own.range (h := hA.own.only hrow) (i * 64) 64
      rw [flat_take 64 ws (fun t ht => (Hsec.out t ht).1) i hlt] at hr
      have hdr : ws.drop i = ws[i] :: ws.drop (i + 1) := List.drop_eq_getElem_cons hlt
      rw [hdr] at hE
      have hb := writeM_bounds D1 ((at_ + i : Nat) : Int) ws[i]
      have hlt9 : D1.steps < 9223372036854775807 := by have := Hst.out; omega
      have hlt6 : D1.since.length < 1000000 := by have := Hsi.out; omega
      have Hb := Lib.hid hb
      have HE := Lib.hid hE
      have HA := Lib.hid hA
      have Hs1 := Lib.hid hs1
      have Hs2 := Lib.hid hs2
      have Hs := Lib.hid hs
      have hone := hs.2
      have his : (Try.prog.info? 55).map (·.size) = some ws[i].length := by rw [hs.1]; exact info_sector
      have hz64 : zSec.toArray.size = ws[i].length := by rw [hs.1]; rfl
      have Hz64 := Lib.hid hz64
      clear hb hE hA hs1 hs2 hrow hdr hs hz64
      generalize ws[i] = s at *
      go_wp2_with (first
        | (refine wpList_load_mid rfl 55 (.tmp 15) rfl g (i * 64) rfl s _ hr Try.underlying55 rfl his ?_)
        | (refine wpList_store_dk rfl 55 (.tmp 8) (.tmp 16) rfl HA.out s wr.heap.size rfl rfl rfl ?hz his hone ?_))
      case hz => exact Hz64.out
      intro w2 hA2
      have hlen := Hs.out.1
      have cr : w2.rangeAt wr.heap.size 0 s := by
        have := Own.range (h := hA2.own.only (List.mem_cons_self ..)) 0 s.length
        rw [List.drop_zero, List.take_length] at this
        exact this
      have hm2 : rowLog l d side used lv dead ∈ (⟨55, s.length, .slice (some ⟨wr.heap.size, 0, none⟩) 1 1, 1, s⟩ :: L : List Rw) := List.mem_cons_of_mem _ Hm.out
      obtain ⟨c0, _, _, _, _⟩ := log_cells_mem hA2 hm2
      have HA2 := Lib.hid hA2.drew
      obtain ⟨q, hq⟩ : ∃ q, at_ + i = q := ⟨_, rfl⟩
      have hw1 : IntKind.i64.wrap ((at_ : Int) + (i : Int)) = (q : Int) := by rw [IntWalk.i64_in _ (by omega)]; omega
      have Hq := Lib.hid hq
      rw [hq] at HE Hb
      clear hq
      clear hA2 hm2 HA
      generalize wr.heap.size = H at *
      go_wp2_with fail
      go_still_tail 8, (by kernel_rfl)
      repeat still_step
      refine wpStill_load_mid rfl 55 (.tmp 8) rfl H 0 rfl s _ cr Try.underlying55 rfl his ?_
      refine wpStill_nil ?_
      change wpList _ _ _ _ _ w2.drew
      clear hw1
      go_wp2_with fail
      refine (write_any W0 w2.drew d D1 _ (q : Int) s HA2.out Hs.out hlt9 hlt6).mono ?_
      rintro e w3 ⟨rfl, hA3⟩
      have HA3 := Lib.hid (hA3.sub (List.sublist_cons_self _ _))
      clear hA3
      have hE2 := HE.out
      rw [writesM_cons] at hE2
      generalize hP : writeM D1 (q : Int) s = p at *
      clear hP
      obtain ⟨D2, e2⟩ := p
      simp only at hE2 Hb HA3 ⊢
      by_cases he : e2 = 0
      · subst he
        rw [if_neg (by decide)] at hE2
        have HE2 := Lib.hid hE2
        clear hE2
        go_wp2_with fail
        exact ⟨⟨i + 1, D2, by omega, by go_num, HA3.out, by rw [HE2.out, ← Hq.out]; rfl, by have := Hb.out.1; have := Hs1.out; omega, by have := Hb.out.2.1; have := Hs2.out; omega⟩, by simp [intOf]; omega⟩
      · rw [if_pos he] at hE2
        have HE2 := Lib.hid hE2
        have he2 : (e2 != 0) = true := by simpa using he
        clear hE2 he
        go_wp2_with fail
        go_ret
        exact ⟨by rw [HE2.out]; rfl, by rw [HE2.out]; exact HA3.out⟩
    · obtain rfl : i = ws.length := by omega
      rw [List.drop_of_length_le (Nat.le_refl _)] at hE
      have hlt9 : D1.steps < 9223372036854775807 := by have := Hst.out; omega
      obtain ⟨c0, _, _, _, _⟩ := log_cells_mem hA Hm.out
      have HE := Lib.hid hE
      have HA := Lib.hid hA
      clear hE hA hs1 hs2
      go_wp2_with fail
      refine (flush_any W0 wr d D1 _ HA.out hlt9).mono ?_
      rintro e w3 ⟨rfl, hA3⟩
      have HA3 := Lib.hid hA3
      clear hA3
      go_wp2_with fail
      go_ret
      exact ⟨by rw [HE.out]; rfl, by rw [HE.out]; exact HA3.out⟩
end Go.Proofs.Ytpebpchnkhbcfaa
