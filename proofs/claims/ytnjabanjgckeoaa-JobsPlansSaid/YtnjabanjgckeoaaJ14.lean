/- The document's Stands. -/
import Derived.Test.YtnjabanjgckeoaaJ13
namespace Go.Proofs.Ytnjabanjgckeoaa
open Go.RowKit
open Go.ChangeMaps (setBlock)
set_option linter.unusedVariables false
set_option linter.unusedSimpArgs false
set_option maxRecDepth 100000

/-- Does n stand right behind x, and are both there? -/
def standD (us : List GU) (n x : Nm) : Bool := decide (n ∈ namesU us) && decide (x ∈ namesU us) && (decide (x ∈ (findU us n).af) || decide (x ∈ (findU us n).re) || decide (n ∈ (findU us x).be))
set_option maxHeartbeats 8000000 in
theorem dstands_any (w : World) {v : Value} {us : List GU} (h : DU w v us) (n x : Nm) : Calls Try.prog 32 #[v, .string (toB n), .string (toB x)] w fun e w' => e = .returned (.bool (standD us n x)) ∧ w' = w := by
  obtain ⟨a, c, rfl⟩ := h.shape
  have hn : (us.length : Int) ≤ 1000000 := by obtain ⟨_, _, _, _, hl, _⟩ := h; omega
  have k1 := dfind_any w h n
  have k2 := dfind_any w h x
  have H := Lib.hid h
  clear h
  have KH := Lib.hid (fun (v : Value) (ls : List Nm) (hs : Sts w v ls) (s : Nm) => dhas_any w hs s)
  obtain ⟨nb, hnb⟩ : ∃ nb, toB n = nb := ⟨_, rfl⟩
  obtain ⟨xb, hxb⟩ : ∃ xb, toB x = xb := ⟨_, rfl⟩
  rw [hnb] at k1
  rw [hxb] at k2
  rw [hnb, hxb]
  have Hnb := Lib.hid hnb
  have Hxb := Lib.hid hxb
  clear hnb hxb
  go_enter Try.func32, Try.ntmps32
  go_upto_region 2 with (go_at_call 14; refine k1.mono ?_; rintro e w1 ⟨⟨r1, rfl, hF1⟩, rfl⟩)
  have HF1 := Lib.hid hF1
  clear hF1 k1
  go_upto_region 3 with (go_at_call 14; refine k2.mono ?_; rintro e w2 ⟨⟨r2, rfl, hF2⟩, rfl⟩)
  have HF2 := Lib.hid hF2
  clear hF2 k2
  rcases HF1.out with ⟨rfl, hN1⟩ | ⟨i1, hi1, rfl, hu1, hm1, hf1⟩
  · have HM := Lib.hid (show standD us n x = false from by unfold standD; rw [decide_eq_false hN1]; rfl)
    clear hN1
    go_wp2_with fail
    go_ret
    exact ⟨by rw [HM.out]; rfl, by first | rfl | trivial⟩
  rcases HF2.out with ⟨rfl, hN2⟩ | ⟨i2, hi2, rfl, hu2, hm2, hf2⟩
  · have HM := Lib.hid (show standD us n x = false from by unfold standD; rw [decide_eq_false hN2]; simp)
    clear hN2 hu1 hm1 hf1
    go_wp2_with fail
    go_ret
    exact ⟨by rw [HM.out]; rfl, by first | rfl | trivial⟩
  obtain ⟨b, o, z1, rfl, hz1, hc1⟩ := H.out.at i1 hi1
  obtain ⟨b', o', z2, e9, hz2, hc2⟩ := H.out.at i2 hi2
  injection e9 with e9
  injection e9 with e10 e11 _
  subst e10 e11
  have c2 := hc1 2 _ rfl
  have c4 := hc1 4 _ rfl
  have c3 := hc2 3 _ rfl
  rw [← hf1] at hz1
  rw [← hf2] at hz2
  have K1 := KH.out _ _ hz1.s2 x
  have K2 := KH.out _ _ hz1.s4 x
  have K3 := KH.out _ _ hz2.s3 n
  rw [Hxb.out] at K1 K2
  rw [Hnb.out] at K3
  have HM := Lib.hid (show standD us n x = (decide (x ∈ (findU us n).af) || decide (x ∈ (findU us n).re) || decide (n ∈ (findU us x).be)) from by unfold standD; rw [decide_eq_true hm1, decide_eq_true hm2]; rfl)
  have y1 : (i1 : Int) < (us.length : Int) := by omega
  have y2 : (i2 : Int) < (us.length : Int) := by omega
  clear hc1 hc2 hz1 hz2 hu1 hm1 hf1 hu2 hm2 hf2 hi1 hi2 H KH HF1 HF2
  generalize z1.v2 = va at *
  generalize z1.v4 = vr at *
  generalize z2.v3 = vb at *
  generalize decide (x ∈ (findU us n).af) = b1 at *
  generalize decide (x ∈ (findU us n).re) = b2 at *
  generalize decide (n ∈ (findU us x).be) = b3 at *
  have K1h := Lib.hid K1
  have K2h := Lib.hid K2
  have K3h := Lib.hid K3
  clear K1 K2 K3
  go_wp2_with fail
  go_at_call 31
  refine K1h.out.mono ?_
  rintro e w1 ⟨rfl, rfl⟩
  clear K1h
  cases b1
  · go_wp2_with fail
    go_at_call 31
    refine K2h.out.mono ?_
    rintro e w1 ⟨rfl, rfl⟩
    clear K2h
    cases b2
    · go_wp2_with fail
      go_at_call 31
      refine K3h.out.mono ?_
      rintro e w1 ⟨rfl, rfl⟩
      clear K3h
      go_wp2_with fail
      go_ret
      exact ⟨by rw [HM.out]; rfl, by first | rfl | trivial⟩
    · go_wp2_with fail
      go_ret
      exact ⟨by rw [HM.out]; rfl, by first | rfl | trivial⟩
  · go_wp2_with fail
    go_ret
    exact ⟨by rw [HM.out]; rfl, by first | rfl | trivial⟩
end Go.Proofs.Ytnjabanjgckeoaa
