/- The log that lies on a disk is opened; a new one, on one of noughts. -/
import Derived.Test.YtpebpchnkhbcfaaLLoad
namespace Go.Proofs.Ytpebpchnkhbcfaa
open Go.RowKit
set_option linter.unusedVariables false
set_option linter.unusedSimpArgs false

def z64 : List Int := List.replicate 64 0
theorem z64_byts : Byts z64 := zeros_byts 64
theorem eqZ (w : World) : (Op.equalIn 10000 55 (.agg zSec.toArray) (.agg zSec.toArray)).run Try.prog w = .ok true w := by
  have := eqSec z64 z64 z64_byts z64_byts rfl rfl w
  rw [decide_eq_true rfl] at this
  exact this

set_option maxHeartbeats 3200000 in
set_option maxRecDepth 100000 in
theorem blank_any {W0 : Base} {w : World} {d n : Nat} {D : Dk} {L : List Rw} (h : DkAt W0 w d D L) (hup : D.down = false) (hn : D.last = List.replicate n zSec) :
    Calls Try.prog 24 #[.pointer (some ⟨d, 0, none⟩)] w fun e w' => e = .returned (.bool true) ∧ Below w.heap.size w w' := by
  have hl : D.last.length = n := by rw [hn, List.length_replicate]
  have hm := h.ok.le
  rw [hl] at hm
  have hlen := len_any W0 w d D L h
  rw [hl] at hlen
  have Hlen := Lib.hid hlen
  have hrd : ∀ i : Nat, i < n → (readM D (i : Int)).1 = zSec ∧ (readM D (i : Int)).2 = 0 := by
    intro i hi
    have hr0 : refusedM D (i : Int) = 0 := by unfold refusedM; rw [hup, if_neg (by decide), if_neg (by omega)]
    unfold readM
    rw [hr0]
    refine ⟨?_, rfl⟩
    show D.last.getD i [] = _
    rw [List.getD_eq_getElem?_getD, hn, List.getElem?_replicate, if_pos hi]; rfl
  have Hrd := Lib.hid hrd
  have H := Lib.hid h
  have hzs := zero_sector
  have hEq := eqZ
  have hb := built_sector
  have hz2 : (Try.prog.info? 55).map (·.size) = some zSec.length := info_sector
  clear h hlen hrd hn hl hup
  go_enter Try.func24, Try.ntmps24
  go_wp2_with fail
  refine Hlen.out.mono ?_
  rintro e w' ⟨rfl, rfl⟩
  go_wp2_with fail
  go_loopw [8] (fun t wr => ∃ (i : Nat), i ≤ n ∧ t = .int .i64 i ∧ Below w.heap.size w wr) (fun t _ => n - (intOf t).toNat)
  case atStart => exact ⟨0, Nat.zero_le _, rfl, Below.refl _ _⟩
  case round =>
    obtain ⟨i, hi, rfl, hbw⟩ := hrel
    by_cases hlt : i < n
    · have HA := Lib.hid (H.out.later hbw)
      have Hbw := Lib.hid hbw
      obtain ⟨r1, r2⟩ := Hrd.out i hlt
      have R1 := Lib.hid r1
      have R2 := Lib.hid r2
      clear hbw r1 r2
      go_wp2_with fail
      refine (read_any W0 wr d D L (i : Int) HA.out).mono ?_
      rintro e w2 ⟨rfl, hb2⟩
      rw [R1.out, R2.out]
      have HO2 := Lib.hid (Own.start w2)
      have Hb2 := Lib.hid (Hbw.out.trans (hb2.mono Hbw.out.size))
      clear hb2 HA Hbw
      go_wp2_with (refine wpList_store_new rfl 55 (.tmp 4) (.tmp 15) rfl HO2.out zSec w2.heap.size rfl rfl rfl rfl hz2 zSec_sec.2 ?_)
      intro w3 hO3 _
      have cr : w3.rangeAt w2.heap.size 0 zSec := by
        have := hO3.range 0 zSec.length
        rw [List.drop_zero, List.take_length] at this
        exact this
      have Hb3 := Lib.hid (Hb2.out.trans (hO3.below.mono Hb2.out.size))
      clear hO3
      go_wp2_with (first
        | (refine wpList_load_mid rfl 55 (.tmp 4) rfl w2.heap.size 0 rfl zSec _ cr Try.underlying55 rfl hz2 ?_)
        | (refine wpList_build rfl 55 #[] rfl [] rfl _ hb ?_))
      exact ⟨⟨i + 1, by omega, by go_num, Hb3.out⟩, by simp [intOf]; omega⟩
    · obtain rfl : i = n := by omega
      have Hbw := Lib.hid hbw
      clear hbw
      go_wp2_with fail
      go_ret
      exact ⟨rfl, Hbw.out⟩

/-! ### What the root's sector is taken for -/
theorem num4_sizedL (zs l : List Int) (h : zs.length < 4294967296) : num4 (sizedL zs ++ l) = zs.length := by
  unfold sizedL
  rw [List.append_assoc, num4_le4 _ (by omega) (by omega)]
theorem isSized_sizedL (zs l : List Int) (most : Int) (h : zs.length < 4294967296) (hm : (zs.length : Int) ≤ most) : isSized (sizedL zs ++ l) most := by
  refine ⟨?_, ?_, ?_⟩
  · rw [List.length_append, sizedL_length]; omega
  · rw [num4_sizedL _ _ h]; exact hm
  · rw [num4_sizedL _ _ h, List.length_append, sizedL_length]; omega
theorem drop4_sizedL (zs l : List Int) : (sizedL zs ++ l).drop 4 = zs ++ l := by
  unfold sizedL le4
  rfl
theorem restOf_sizedL (zs l : List Int) (h : zs.length < 4294967296) : restOf (sizedL zs ++ l) = l := by
  unfold restOf
  rw [num4_sizedL _ _ h, drop4_sizedL, Int.toNat_natCast, List.drop_left']
  rfl
theorem rootB_form (side used : Nat) : rootB side used = sizedL (sb markS) ++ (le4 side ++ (le4 used ++ (le4 (crcI (rootH side used)) ++ List.replicate 37 0))) := by
  unfold rootB padTo
  rw [rootR_length]
  show rootR side used ++ List.replicate 37 0 = _
  unfold rootR
  conv => lhs; lhs; lhs; unfold rootH
  simp only [List.append_assoc, List.append_nil, List.nil_append]
theorem root_parts (side used : Nat) (hs : side ≤ 1) (hu : used ≤ 4096) : isSized (rootB side used) 11 ∧ 4 ≤ (restOf (rootB side used)).length ∧ num4 (restOf (rootB side used)) = side ∧ 4 ≤ ((restOf (rootB side used)).drop 4).length ∧ num4 ((restOf (rootB side used)).drop 4) = used := by
  have hm : (sb markS).length < 4294967296 := by rw [sb_length]; decide
  rw [rootB_form, restOf_sizedL _ _ hm]
  refine ⟨isSized_sizedL _ _ 11 hm (by rw [sb_length]; decide), ?_, num4_le4 _ (by omega) (by omega) _, ?_, ?_⟩
  · simp [le4]
  · simp [le4]
  · exact num4_le4 _ (by omega) (by omega) _
theorem z64_parts : isSized z64 11 ∧ 4 ≤ (restOf z64).length ∧ num4 (restOf z64) = (0 : Nat) ∧ 4 ≤ ((restOf z64).drop 4).length ∧ num4 ((restOf z64).drop 4) = (0 : Nat) := by
  unfold isSized
  decide +kernel
theorem z64_no : z64 ≠ rootB 0 0 := by
  intro e
  have := congrArg (fun l => l[0]?) e
  rw [rootB_form] at this
  have h2 : (some 0 : Option Int) = some 11 := this
  cases h2
end Go.Proofs.Ytpebpchnkhbcfaa
