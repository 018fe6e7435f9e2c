/- The document's example of rec holds of the program; the call makes memory alone. And: are two rows of bytes the same? -/
import Derived.Test.YtgkkebenbpbhnaaRec2
namespace Go.Proofs.Ytgkkebenbpbhnaa
open Go.RowKit
set_option linter.unusedVariables false
set_option linter.unusedSimpArgs false

theorem Own.form3 {W0 w : World} {v : Value} {zs : List Int} {L : List Rw} (h : Own W0 w (rowU v zs :: L)) : ∃ a k c, v = .slice a k c := by
  obtain ⟨a, c, hv, _⟩ := Own.sized (h := h)
  exact ⟨_, _, _, hv⟩
theorem Own.of_mem {W0 w : World} {L M : List Rw} (h : Own W0 w L) (hs : M.Sublist L) : Own W0 w M :=
  ⟨h.below, fun p hp => h.rows p (hs.subset hp), h.apart.sublist hs⟩
def aZ : List Int := [2, 1, 0, 0, 2, 0, 0, 0, 97, 98, 4, 0, 0, 0, 1, 0, 0, 0]
def aZ1 : List Int := [2, 0, 0, 0, 97, 98, 4, 0, 0, 0, 1, 0, 0, 0]
def aZ2 : List Int := [4, 0, 0, 0, 1, 0, 0, 0]
def aZ3 : List Int := [1, 0, 0, 0]
theorem aAll (u v x : Value) : allOf [(u, le4 258), (v, sizedL (sb { data := #[97, 98] })), (x, sizedL (le4 1))] = aZ := by
  show le4 258 ++ (sizedL (sb { data := #[97, 98] }) ++ (sizedL (le4 1) ++ [])) = _
  decide +kernel
theorem aN1 : num4 aZ = 258 := by decide +kernel
theorem aD1 : aZ.drop 4 = aZ1 := rfl
theorem aS1 : isSized aZ1 9 := by unfold isSized; decide +kernel
theorem aB1 : strOfNums (bodyOf aZ1) = { data := #[97, 98] } := by
  have : bodyOf aZ1 = [97, 98] := by decide +kernel
  rw [this]; rfl
theorem aR1 : restOf aZ1 = aZ2 := by decide +kernel
theorem aS2 : isSized aZ2 16777216 := by unfold isSized; decide +kernel
theorem aB2 : bodyOf aZ2 = aZ3 := by decide +kernel
theorem aR2 : restOf aZ2 = [] := by decide +kernel
theorem aN3 : (num4 aZ3 == 1) = true := by decide +kernel
theorem aByts : Byts aZ := by unfold Byts aZ; decide

set_option maxHeartbeats 3200000 in
theorem alive_any (w : World) : Calls Try.prog 6 #[] w fun e w' => e = .returned (.bool true) ∧ Below w.heap.size w w' := by
  go_enter Try.func6, Try.ntmps6
  go_wp2_with fail
  refine (num_any 258 w (by decide) (by decide)).mono ?_
  rintro e w1 ⟨va, rfl, hO1⟩
  obtain ⟨a1, k1, c1, rfl⟩ := hO1.form3
  have HO1 := Lib.hid hO1
  clear hO1
  go_wp2_with fail
  refine (text_any { data := #[97, 98] } w1 (by decide)).mono ?_
  rintro e w2 ⟨vb, rfl, hO2⟩
  obtain ⟨a2, k2, c2, rfl⟩ := hO2.form3
  have HO2 := Lib.hid (HO1.out.join hO2)
  clear hO2
  go_wp2_with fail
  refine (num_any 1 w2 (by decide) (by decide)).mono ?_
  rintro e w3 ⟨vc, rfl, hO3⟩
  obtain ⟨a3, k3, c3, rfl⟩ := hO3.form3
  have HO3 := Lib.hid (HO2.out.join hO3)
  clear hO3
  go_wp2_with fail
  have hb1 : By w3 (.slice a1 k1 c1) (le4 258) := (HO3.out.only (by simp : rowU (.slice a1 k1 c1) (le4 258) ∈ _)).by (le4_byts _ (by decide) (by decide))
  have hb2 : By w3 (.slice a2 k2 c2) (sizedL (sb { data := #[97, 98] })) := (HO3.out.only (by simp : rowU (.slice a2 k2 c2) (sizedL (sb { data := #[97, 98] })) ∈ _)).by (sizedL_byts _ (sb_byts _) (by decide))
  have hb3 : By w3 (.slice a3 k3 c3) (le4 1) := HO3.out.by (le4_byts _ (by decide) (by decide))
  have hP := parts_list w3 30 [(.slice a3 k3 c3, le4 1)] (by intro p hp; rw [List.mem_singleton.1 hp]; exact hb3) w3.heap.size rfl
  refine (list_any (some ⟨w3.heap.size, 0, none⟩) 1 [(.slice a3 k3 c3, le4 1)] _ hP (by simp [maxLen]) (by rw [allOf_one]; decide)).mono ?_
  rintro e w4 ⟨vd, rfl, hO4⟩
  rw [allOf_one] at hO4
  obtain ⟨a4, k4, c4, rfl⟩ := hO4.form3
  have hb := (Below.alloc (Below.refl w3.heap.size w3) (Nat.le_refl _) (.cells #[.slice a3 k3 c3] 30)).trans (hO4.below.mono (by simp))
  have HO4 := Lib.hid ((HO3.out.alloc (.cells #[.slice a3 k3 c3] 30)).join hO4)
  have hb1 := hb1.later hb
  have hb2 := hb2.later hb
  clear hO4 hP hb3 hb
  go_wp2_with fail
  have hb4 : By w4 (.slice a4 k4 c4) (sizedL (le4 1)) := HO4.out.by (sizedL_byts _ (le4_byts _ (by decide) (by decide)) (by decide))
  have hP := parts_list w4 30 [(.slice a1 k1 c1, le4 258), (.slice a2 k2 c2, sizedL (sb { data := #[97, 98] })), (.slice a4 k4 c4, sizedL (le4 1))] (by
    intro p hp
    simp only [List.mem_cons, List.not_mem_nil, or_false] at hp
    rcases hp with rfl | rfl | rfl <;> assumption) w4.heap.size rfl
  refine (pack_any (some ⟨w4.heap.size, 0, none⟩) 3 _ _ hP (by simp [maxLen]) (by rw [aAll]; decide)).mono ?_
  rintro e w5 ⟨v, rfl, hO5⟩
  rw [aAll] at hO5
  have HO5 := Lib.hid (((HO4.out.alloc (.cells #[.slice a1 k1 c1, .slice a2 k2 c2, .slice a4 k4 c4] 30)).join hO5).only (List.mem_append_left _ (List.mem_cons_self ..)))
  clear hO5 hb1 hb2 hb4 hP HO1 HO2 HO3 HO4
  have hby := HO5.out.by aByts
  have Hby := Lib.hid hby
  obtain ⟨g, o, c, rfl, _, _, hcs⟩ := hby.cells (by decide)
  clear hby
  go_wp2_with fail
  refine (read_any _ aZ w5 Hby.out (by decide)).mono ?_
  rintro e w6 ⟨r, v1, rfl, hO6, hp6⟩
  have HO6 := Lib.hid (HO5.out.join hO6)
  have Hp6 := Lib.hid (hp6.mono (L' := [rowU v1 aZ, rowU (.slice (some ⟨g, o, none⟩) aZ.length c) aZ]) (by simp))
  clear hO6 hp6 hcs Hby
  go_wp2_with fail
  refine (rnum_any w w6 r v1 false _ aZ 300 HO6.out Hp6.out ⟨by decide, by rw [aN1]; decide⟩).mono ?_
  rintro e w7 ⟨v2, rfl, hO7, hp7⟩
  rw [aN1]
  rw [aD1] at hp7
  have HO7 := Lib.hid hO7
  have Hp7 := Lib.hid hp7
  clear hO7 hp7
  go_wp2_with fail
  refine (rtext_yes w w7 r v2 false _ aZ1 9 HO7.out Hp7.out aS1).mono ?_
  rintro e w8 ⟨v3, rfl, hO8, hp8⟩
  rw [aB1]
  rw [aR1] at hp8
  have HO8 := Lib.hid hO8
  have Hp8 := Lib.hid hp8
  clear hO8 hp8
  go_wp2_with fail
  refine (rlist_yes w w8 r v3 false _ aZ2 HO8.out Hp8.out aS2).mono ?_
  rintro e w9 ⟨r2, v4, v5, rfl, hO9, hp9, hq9⟩
  rw [aB2] at hp9
  rw [aR2] at hq9
  have HO9 := Lib.hid hO9
  have Hp9 := Lib.hid hp9
  have Hq9 := Lib.hid hq9
  have hby := (hO9.only (by simp : rowU (.slice (some ⟨g, o, none⟩) aZ.length c) aZ ∈ _)).by aByts
  obtain ⟨g', o', c', he, _, _, hcs⟩ := hby.cells (by decide)
  injection he with e1 e2 e3
  injection e1 with e1
  injection e1 with e1 e4 e5
  subst e1 e4 e3
  have k0 : w9.cell? ⟨g, o, none⟩ = some (.int .u8 2) := hcs 0 (by decide)
  have k1' : w9.cell? ⟨g, o + 1, none⟩ = some (.int .u8 1) := hcs 1 (by decide)
  clear hO9 hp9 hq9 hcs hby
  go_wp2_with fail
  refine (truth_yes w w9 r2 v4 false _ aZ3 HO9.out (Hp9.out.cons _) ⟨by decide, by decide +kernel⟩).mono ?_
  rintro e w10 ⟨v6, rfl, hO10, hp10⟩
  rw [aN3]
  have HO10 := Lib.hid hO10
  have Hp10 := Lib.hid (show Pc _ v6 [] from hp10)
  have HS10 := Lib.hid hO10.swap
  have Hq10 := Lib.hid (Hq9.out.cons (rowR r2 v6 false))
  clear hO10 hp10 k0 k1'
  go_wp2_with fail
  refine (done_any w w10 r2 v6 false _ [] HO10.out Hp10.out).mono ?_
  rintro e w' ⟨rfl, rfl⟩
  go_wp2_with fail
  refine (done_any w w10 r v5 false _ [] HS10.out Hq10.out).mono ?_
  rintro e w' ⟨rfl, rfl⟩
  go_wp2_with fail
  refine (err_any w w10 r v5 false _ [] HS10.out Hq10.out).mono ?_
  rintro e w' ⟨rfl, rfl⟩
  go_wp2_with fail
  refine (more_any w w10 r v5 false _ [] HS10.out Hq10.out).mono ?_
  rintro e w' ⟨rfl, rfl⟩
  go_wp2_with fail
  have hO11 : Own w _ (rowU (.slice (some ⟨w10.heap.size, 0, none⟩) 1 1) [1] :: _) := HO10.out.made 5 1 #[.int .u8 1] 1 rfl (by unfold maxLen; decide)
  refine (read_any (.slice (some ⟨w10.heap.size, 0, none⟩) 1 1) [1] _ (hO11.by (by unfold Byts; decide)) (by decide)).mono ?_
  rintro e w11 ⟨r3, v7, rfl, hO12, hp12⟩
  have hb12 := (hO11.join hO12).below
  have HO12 := Lib.hid hO12
  have Hp12 := Lib.hid hp12
  clear hO11 hO12 hp12
  go_wp2_with fail
  refine (err_any _ w11 r3 v7 false _ [1] HO12.out Hp12.out).mono ?_
  rintro e w' ⟨rfl, rfl⟩
  go_wp2_with fail
  go_ret
  exact ⟨rfl, hb12⟩

set_option maxHeartbeats 1600000 in
theorem same_yes (u v : Value) (zs : List Int) (w : World) (h : By w u zs) (k : By w v zs) :
    Calls Try.prog 10 #[u, v] w fun e w' => e = .returned (.bool true) ∧ w = w' := by
  have hm : zs.length ≤ maxLen := by obtain ⟨_, _, a, c, _, h1, h2⟩ := h; omega
  unfold maxLen at hm
  by_cases hn : 0 < zs.length
  · obtain ⟨g, o, c, rfl, h1, h2, hc⟩ := h.cells hn
    obtain ⟨g2, o2, c2, rfl, h3, h4, hc2⟩ := k.cells hn
    clear h k
    have Hc := Lib.hid hc
    have Hc2 := Lib.hid hc2
    clear hc hc2
    go_enter Try.func10, Try.ntmps10
    go_wp2_with fail
    go_loop [14] (fun i => ∃ j : Nat, j ≤ zs.length ∧ i = .int .i64 j) (fun i => zs.length - (intOf i).toNat)
    case atStart => exact ⟨0, Nat.zero_le _, rfl⟩
    case round =>
      obtain ⟨j, hj, rfl⟩ := hrel
      by_cases hlt : j < zs.length
      · have e1 := Hc.out j hlt
        have e2 := Hc2.out j hlt
        go_wp2_with fail
        exact ⟨⟨j + 1, by omega, by go_num⟩, by simp [intOf]; omega⟩
      · obtain rfl : j = zs.length := by omega
        go_wp2_with fail
        go_ret
        exact ⟨rfl, rfl⟩
  · have hz : zs = [] := List.eq_nil_of_length_eq_zero (by omega)
    subst hz
    obtain ⟨_, _, a, c, rfl, _, _⟩ := h
    obtain ⟨_, _, a2, c2, rfl, _, _⟩ := k
    go_enter Try.func10, Try.ntmps10
    go_wp2_with fail
    refine wp_loop_rounds 1 ?_
    rw [rounds_succ]
    go_wp2_with fail
    go_ret
    exact ⟨rfl, rfl⟩
end Go.Proofs.Ytgkkebenbpbhnaa
