/- The calls of a disk, by what they make of it. -/
import Derived.Test.YtpebpchnkhbcfaaKDisk1
namespace Go.Proofs.Ytpebpchnkhbcfaa
open Go.RowKit
set_option linter.unusedVariables false
set_option linter.unusedSimpArgs false

/-- A disk lies at d; other rows of the call's own lie beside it. -/
def DkAt (W0 : Base) (w : World) (d : Nat) (D : Dk) (L : List Rw) : Prop :=
  D.Ok ∧ ∃ (kb lb n : Nat) (sv : Value), n = D.last.length ∧ Own W0 w (rowsOf d kb lb sv n D L)

theorem DkAt.alloc {W0 : Base} {w : World} {d : Nat} {D : Dk} {L : List Rw} (h : DkAt W0 w d D L) (o : Obj) : DkAt W0 (w.alloc o) d D L := by
  obtain ⟨h1, kb, lb, n, sv, h2, h3⟩ := h; exact ⟨h1, kb, lb, n, sv, h2, h3.alloc o⟩
theorem DkAt.drew {W0 : Base} {w : World} {d : Nat} {D : Dk} {L : List Rw} (h : DkAt W0 w d D L) : DkAt W0 w.drew d D L := by
  obtain ⟨h1, kb, lb, n, sv, h2, h3⟩ := h; exact ⟨h1, kb, lb, n, sv, h2, h3.drew⟩
theorem DkAt.later {W0 : Base} {w w' : World} {d : Nat} {D : Dk} {L : List Rw} (h : DkAt W0 w d D L) (hb : Below w.heap.size w w') : DkAt W0 w' d D L := by
  obtain ⟨h1, kb, lb, n, sv, h2, h3⟩ := h; exact ⟨h1, kb, lb, n, sv, h2, h3.later hb⟩
theorem DkAt.ok {W0 : Base} {w : World} {d : Nat} {D : Dk} {L : List Rw} (h : DkAt W0 w d D L) : D.Ok := h.1
theorem DkAt.below {W0 : Base} {w : World} {d : Nat} {D : Dk} {L : List Rw} (h : DkAt W0 w d D L) : Below W0.world.heap.size W0.world w := by
  obtain ⟨h1, kb, lb, n, sv, h2, h3⟩ := h; exact h3.below

section
variable {W0 : Base} {w : World} {d kb lb n : Nat} {sv : Value} {D : Dk} {L : List Rw}
theorem own_c1 (h : Own W0 w (rowsOf d kb lb sv n D L)) : w.cell? ⟨d, 1, none⟩ = some (.slice (some ⟨lb, 0, none⟩) n n) := Own.cell (h := h) 1 (by decide)
theorem own_c2 (h : Own W0 w (rowsOf d kb lb sv n D L)) : w.cell? ⟨d, 2, none⟩ = some sv := Own.cell (h := h) 2 (by decide)
theorem own_c3 (h : Own W0 w (rowsOf d kb lb sv n D L)) : w.cell? ⟨d, 3, none⟩ = some (.int .i64 D.steps) := Own.cell (h := h) 3 (by decide)
theorem own_c4 (h : Own W0 w (rowsOf d kb lb sv n D L)) : w.cell? ⟨d, 4, none⟩ = some (.int .i64 D.left) := Own.cell (h := h) 4 (by decide)
theorem own_c5 (h : Own W0 w (rowsOf d kb lb sv n D L)) : w.cell? ⟨d, 5, none⟩ = some (.int .u64 D.keeps) := Own.cell (h := h) 5 (by decide)
theorem own_c6 (h : Own W0 w (rowsOf d kb lb sv n D L)) : w.cell? ⟨d, 6, none⟩ = some (.bool D.down) := Own.cell (h := h) 6 (by decide)
theorem own_f (h : Own W0 w (rowsOf d kb lb sv n D L)) (j : Nat) : w.frozen? ⟨d, j, none⟩ = false := Own.free (h := h) j
theorem own_s3 (h : Own W0 w (rowsOf d kb lb sv n D L)) (x : Int) : Own W0 (w.setCell ⟨d, 3, none⟩ (.int .i64 x)) (rowsOf d kb lb sv n { D with steps := x } L) := Own.set (h := h) 3 _
theorem own_s4 (h : Own W0 w (rowsOf d kb lb sv n D L)) (x : Int) : Own W0 (w.setCell ⟨d, 4, none⟩ (.int .i64 x)) (rowsOf d kb lb sv n { D with left := x } L) := Own.set (h := h) 4 _
theorem own_s5 (h : Own W0 w (rowsOf d kb lb sv n D L)) (x : Int) : Own W0 (w.setCell ⟨d, 5, none⟩ (.int .u64 x)) (rowsOf d kb lb sv n { D with keeps := x } L) := Own.set (h := h) 5 _
theorem own_s6 (h : Own W0 w (rowsOf d kb lb sv n D L)) (x : Bool) : Own W0 (w.setCell ⟨d, 6, none⟩ (.bool x)) (rowsOf d kb lb sv n { D with down := x } L) := Own.set (h := h) 6 _
end

theorem plan_any (W0 : Base) (w : World) (d : Nat) (D : Dk) (L : List Rw) (m keeps : Int) (h : DkAt W0 w d D L) (hm : m ≤ 9223372036854775807) (k0 : 0 ≤ keeps) (k1 : keeps < 18446744073709551616) :
    Calls Try.prog 17 #[.pointer (some ⟨d, 0, none⟩), .int .i64 m, .int .u64 keeps] w fun e w' => e = .returned (.tuple #[]) ∧ DkAt W0 w' d (planM D m keeps) L := by
  obtain ⟨hD, kb, lb, n, sv, hn, hO⟩ := h
  have c4 := own_c4 hO
  have c5 := own_c5 hO
  have f4 := own_f hO 4
  have f5 := own_f hO 5
  have hF := own_s5 (own_s4 hO (max m 0)) keeps
  have HF := Lib.hid hF
  have Hok := Lib.hid (planM_ok D hD m keeps hm k0 k1)
  have Hn := Lib.hid hn
  have hmx : (if 0 < m then m else 0) = max m 0 := by omega
  have hmy : (if 0 > m then 0 else m) = max m 0 := by omega
  clear hF hD hO hn
  go_enter Try.func17, Try.ntmps17
  go_wp2_with fail
  go_end0
  exact ⟨rfl, Hok.out, kb, lb, n, sv, Hn.out, HF.out⟩

theorem crash_any (W0 : Base) (w : World) (d : Nat) (D : Dk) (L : List Rw) (keeps : Int) (h : DkAt W0 w d D L) (k0 : 0 ≤ keeps) (k1 : keeps < 18446744073709551616) :
    Calls Try.prog 18 #[.pointer (some ⟨d, 0, none⟩), .int .u64 keeps] w fun e w' => e = .returned (.tuple #[]) ∧ DkAt W0 w' d (crashM D keeps) L := by
  obtain ⟨hD, kb, lb, n, sv, hn, hO⟩ := h
  have Hok := Lib.hid (settleM_ok D hD keeps)
  have Hcr := Lib.hid (crashM_ok D hD keeps)
  have Hn := Lib.hid (show n = (settleM D keeps).last.length by rw [show (settleM D keeps).last.length = D.last.length from lastTo_length _ _ _]; exact hn)
  go_enter Try.func18, Try.ntmps18
  go_wp2_with fail
  refine (settle_any W0 w d kb lb n sv D L keeps hO hD hn k0 k1).mono ?_
  rintro e w1 ⟨rfl, hO1⟩
  go_wp2_with fail
  refine (plan_any W0 w1 d (settleM D keeps) L 0 0 ⟨Hok.out, kb, lb, n, _, Hn.out, hO1⟩ (by decide) (by decide) (by decide)).mono ?_
  rintro e w2 ⟨rfl, _, kb, lb, n, sv, hn2, hO2⟩
  have c6 := own_c6 hO2
  have f6 := own_f hO2 6
  have HF := Lib.hid (own_s6 hO2 true)
  have Hn2 := Lib.hid hn2
  clear hO2 hO1 hn2 hn
  go_wp2_with fail
  go_end0
  exact ⟨rfl, Hcr.out, kb, lb, n, sv, Hn2.out, HF.out⟩

theorem on_any (W0 : Base) (w : World) (d : Nat) (D : Dk) (L : List Rw) (h : DkAt W0 w d D L) :
    Calls Try.prog 19 #[.pointer (some ⟨d, 0, none⟩)] w fun e w' => e = .returned (.tuple #[]) ∧ DkAt W0 w' d (onM D) L := by
  obtain ⟨hD, kb, lb, n, sv, hn, hO⟩ := h
  have c6 := own_c6 hO
  have f6 := own_f hO 6
  have HF := Lib.hid (own_s6 hO false)
  have Hok := Lib.hid (onM_ok D hD)
  have Hn := Lib.hid hn
  clear hn hO
  go_enter Try.func19, Try.ntmps19
  go_wp2_with fail
  go_end0
  exact ⟨rfl, Hok.out, kb, lb, n, sv, Hn.out, HF.out⟩

theorem down_any (W0 : Base) (w : World) (d : Nat) (D : Dk) (L : List Rw) (h : DkAt W0 w d D L) :
    Calls Try.prog 40 #[.pointer (some ⟨d, 0, none⟩)] w fun e w' => e = .returned (.bool D.down) ∧ w = w' := by
  obtain ⟨hD, kb, lb, n, sv, hn, hO⟩ := h
  have c6 := own_c6 hO
  clear hn hO
  go_enter Try.func40, Try.ntmps40
  go_wp2_with fail
  go_ret
  exact ⟨rfl, rfl⟩

theorem steps_any (W0 : Base) (w : World) (d : Nat) (D : Dk) (L : List Rw) (h : DkAt W0 w d D L) :
    Calls Try.prog 12 #[.pointer (some ⟨d, 0, none⟩)] w fun e w' => e = .returned (.int .i64 D.steps) ∧ w = w' := by
  obtain ⟨hD, kb, lb, n, sv, hn, hO⟩ := h
  have c3 := own_c3 hO
  clear hn hO
  go_enter Try.func12, Try.ntmps12
  go_wp2_with fail
  go_ret
  exact ⟨rfl, rfl⟩

theorem len_any (W0 : Base) (w : World) (d : Nat) (D : Dk) (L : List Rw) (h : DkAt W0 w d D L) :
    Calls Try.prog 20 #[.pointer (some ⟨d, 0, none⟩)] w fun e w' => e = .returned (.int .i64 (D.last.length : Int)) ∧ w = w' := by
  obtain ⟨hD, kb, lb, n, sv, hn, hO⟩ := h
  have c1 := own_c1 hO
  have Hn := Lib.hid hn
  clear hn hO
  go_enter Try.func20, Try.ntmps20
  go_wp2_with fail
  go_ret
  exact ⟨by rw [← Hn.out]; rfl, rfl⟩

theorem refused_any (W0 : Base) (w : World) (d : Nat) (D : Dk) (L : List Rw) (at_ : Int) (h : DkAt W0 w d D L) :
    Calls Try.prog 32 #[.pointer (some ⟨d, 0, none⟩), .int .i64 at_] w fun e w' => e = .returned (.int .i64 (refusedM D at_)) ∧ w = w' := by
  obtain ⟨hD, kb, lb, n, sv, hn, hO⟩ := h
  have c1 := own_c1 hO
  have c6 := own_c6 hO
  have hfin : refusedM D at_ = if D.down then 3 else if at_ < 0 ∨ (n : Int) ≤ at_ then 2 else 0 := by unfold refusedM; rw [hn]
  have HF := Lib.hid hfin
  clear hfin hn hO
  generalize D.down = b at *
  cases b
  · by_cases h0 : at_ < 0
    · go_enter Try.func32, Try.ntmps32
      go_wp2_with fail
      go_ret
      exact ⟨by rw [HF.out, if_neg (by decide), if_pos (by omega)]; rfl, rfl⟩
    · by_cases h1 : (n : Int) ≤ at_
      · go_enter Try.func32, Try.ntmps32
        go_wp2_with fail
        go_ret
        exact ⟨by rw [HF.out, if_neg (by decide), if_pos (by omega)]; rfl, rfl⟩
      · go_enter Try.func32, Try.ntmps32
        go_wp2_with fail
        go_ret
        exact ⟨by rw [HF.out, if_neg (by decide), if_neg (by omega)]; rfl, rfl⟩
  · go_enter Try.func32, Try.ntmps32
    go_wp2_with fail
    go_ret
    exact ⟨by rw [HF.out, if_pos (by decide)]; rfl, rfl⟩

theorem step_any (W0 : Base) (w : World) (d : Nat) (D : Dk) (L : List Rw) (h : DkAt W0 w d D L) (hst : D.steps < 9223372036854775807) :
    Calls Try.prog 56 #[.pointer (some ⟨d, 0, none⟩)] w fun e w' => e = .returned (.int .i64 (stepM D).2) ∧ DkAt W0 w' d (stepM D).1 L := by
  obtain ⟨hD, kb, lb, n, sv, hn, hO⟩ := h
  have hok := stepM_ok D hD
  have hs0 := hD.steps0
  have hl0 := hD.left0
  have hl1 := hD.left1
  have c3 := own_c3 hO
  have c4 := own_c4 hO
  have c5 := own_c5 hO
  have f3 := own_f hO 3
  have f4 := own_f hO 4
  have hk0 := hD.keeps0
  have hk1 := hD.keeps1
  have hokl : ∀ l : Int, 0 ≤ l → l ≤ 9223372036854775807 → ({ D with steps := D.steps + 1, left := l } : Dk).Ok := fun l a b => ⟨hD.pos, hD.len, hD.le, hD.kept, hD.last, hD.since, hD.many, by show 0 ≤ D.steps + 1; omega, a, b, hD.keeps0, hD.keeps1⟩
  by_cases h0 : D.left = 0
  · have e0 : (D.left == 0) = true := by rw [h0]; rfl
    have hE : stepM D = ({ D with steps := D.steps + 1 }, 0) := by unfold stepM; rw [if_pos h0]
    have HF := Lib.hid (own_s3 hO (D.steps + 1))
    have HE := Lib.hid hE
    have Hok := Lib.hid hok
    have Hn := Lib.hid hn
    clear hE hok hn hO hokl h0
    go_enter Try.func56, Try.ntmps56
    go_wp2_with fail
    go_ret
    exact ⟨by rw [HE.out]; rfl, Hok.out, kb, lb, n, sv, by rw [HE.out]; exact Hn.out, by rw [HE.out]; exact HF.out⟩
  · have e0 : (D.left == 0) = false := by simpa using h0
    have hO2 := own_s4 (own_s3 hO (D.steps + 1)) (D.left - 1)
    by_cases h1 : 0 < D.left - 1
    · have hE : stepM D = ({ D with steps := D.steps + 1, left := D.left - 1 }, 0) := by unfold stepM; rw [if_neg h0]; simp only; rw [if_pos h1]
      have HF := Lib.hid hO2
      have HE := Lib.hid hE
      have Hok := Lib.hid hok
      have Hn := Lib.hid hn
      clear hE hok hn hO hO2 hokl h0
      go_enter Try.func56, Try.ntmps56
      go_wp2_with fail
      go_ret
      exact ⟨by rw [HE.out]; rfl, Hok.out, kb, lb, n, sv, by rw [HE.out]; exact Hn.out, by rw [HE.out]; exact HF.out⟩
    · have hE : stepM D = (crashM { D with steps := D.steps + 1, left := D.left - 1 } D.keeps, 3) := by unfold stepM; rw [if_neg h0]; simp only; rw [if_neg h1]
      have hAt : DkAt W0 ((w.setCell ⟨d, 3, none⟩ (.int .i64 (D.steps + 1))).setCell ⟨d, 4, none⟩ (.int .i64 (D.left - 1))) d { D with steps := D.steps + 1, left := D.left - 1 } L := ⟨hokl _ (by omega) (by omega), kb, lb, n, sv, hn, hO2⟩
      have HA := Lib.hid hAt
      have HE := Lib.hid hE
      clear hE hok hn hO hO2 hokl h0 hAt
      go_enter Try.func56, Try.ntmps56
      go_wp2_with fail
      refine (crash_any W0 _ d _ L D.keeps HA.out hk0 hk1).mono ?_
      rintro e w2 ⟨rfl, hA2⟩
      have HA2 := Lib.hid hA2
      clear hA2
      go_wp2_with fail
      go_ret
      exact ⟨by rw [HE.out]; rfl, by rw [HE.out]; exact HA2.out⟩
end Go.Proofs.Ytpebpchnkhbcfaa
