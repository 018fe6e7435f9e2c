/- The law GraphAdds, walked. -/
import Derived.Test.YtnpadnghocofdaaG24
import Derived.Test.YtnpadnghocofdaaG21
namespace Go.Proofs.Ytnpadnghocofdaa
open Go.RowKit
open Go.ChangeMaps (setBlock)
set_option linter.unusedVariables false
set_option linter.unusedSimpArgs false
set_option maxRecDepth 100000

/-- The lists of a unit that the law looks at. -/
def list5 (u : GU) : List (List Nm) := [u.af, u.be, u.re, u.pa, [u.name]]
theorem noM_of {us : List GU} (h : ∀ u ∈ us, ∀ l ∈ list5 u, [109] ∉ l) : NoM us := fun u hu => by
  have k := h u hu
  refine ⟨fun e => k [u.name] (by simp [list5]) (by rw [e]; simp), k _ (by simp [list5]), k _ (by simp [list5]), k _ (by simp [list5]), k _ (by simp [list5])⟩
theorem src_later {w w' : World} {x : Value} {m : Nat} {news : List Value} (h : Src w x m news) (hb : Below w.heap.size w w') : Src w' x m news := by
  rcases h with h | ⟨ad, c, e, h1, h2⟩
  · exact .inl h
  · exact .inr ⟨ad, c, e, fun j u hj => by
      have := h1 j u hj
      exact (hb.cell (p := ad.add j) (World.block_lt_of_cell? w (ad.add j) this)).trans this, h2⟩
set_option maxHeartbeats 16000000 in
theorem adds_law (w : World) (v : Value) (z : Int) (us : List GU) (h : UArg w v us) (hlen : us.length ≤ maxLen) (hnl : v = .slice none 0 0 ∨ ∃ a n c, v = .slice (some a) n c) :
    Calls Try.prog 5 #[v, .int .i64 z] w fun e w' => e = .returned (.bool true) ∧ Below w.heap.size w w' := by
  obtain ⟨i0, hi, hz0, hz1, hz2⟩ := info_unit_ex
  obtain ⟨av, cv, hv⟩ : ∃ a c, v = .slice a us.length c := by obtain ⟨a, c, _, e, _⟩ := h; exact ⟨a, c, e⟩
  have H := Lib.hid h
  have HNl := Lib.hid hnl
  have ka := alive14_any w
  have KS := Lib.hid (fun w1 (hb : Below w.heap.size w w1) => small_any (h.later hb) hlen)
  subst hv
  have hn : (us.length : Int) ≤ 9223372036854775807 := by unfold maxLen at hlen; omega
  clear h hlen hnl
  go_enter Try.func5, Try.ntmps5
  go_upto_region 3 with (go_at_call 9; refine ka.mono ?_; rintro e w1 ⟨rfl, hb1⟩; have HB1 := Lib.hid hb1; clear hb1)
  have ks := KS.out w1 HB1.out
  clear KS ka
  go_upto_region 5 with (go_at_call 10; refine ks.mono ?_; rintro e w2 ⟨hb2, hsm⟩; obtain ⟨r, rfl, hrr⟩ : ∃ r : Int, e = .returned (.int .i64 r) ∧ (r = 0 ∨ r = 1 ∧ SmallU us) := (by rcases hsm with rfl | ⟨rfl, h⟩; exact ⟨0, rfl, .inl rfl⟩; exact ⟨1, rfl, .inr ⟨rfl, h⟩⟩); have HB2 := Lib.hid (HB1.out.trans (hb2.mono HB1.out.size)); have HR := Lib.hid hrr; clear hb2 hsm hrr)
  all_goals try (go_ret; exact ⟨rfl, HB2.out⟩)
  have hr0 : ¬ r = 0 := by assumption
  have hs16 : (r == 0) = false ∧ (us.length : Int) < 16 := by assumption
  have hS : SmallU us := HR.out.elim (fun h => absurd h hr0) (fun h => h.2)
  have HS := Lib.hid hS
  have hl16 : (us.length : Int) < 16 := hs16.2
  simp only [hs16.1, Bool.false_or]
  clear hS ks HR hn hr0 hs16
  have HU := Lib.hid (H.out.later HB2.out)
  go_wp2_with fail
  go_loopw [34] (fun s wr => ∃ k : Nat, k ≤ us.length ∧ s = .int .i64 k ∧ Own w2 wr [] ∧ Hid (∀ u ∈ us.take k, ∀ l ∈ list5 u, [109] ∉ l)) (fun s _ => us.length - (intOf s).toNat)
  case atStart => exact ⟨0, Nat.zero_le _, rfl, Own.start w2, fun u hu => by cases hu⟩
  case round =>
    obtain ⟨k, hk, rfl, hO, HA⟩ := hrel
    by_cases hlt : k < us.length
    · obtain ⟨a9, c9, xs, e9, hUn, hR⟩ := HU.out
      injection e9 with e9 _ e11
      subst e9 e11
      have hkx : k < xs.length := by rw [hUn.len]; exact hlt
      obtain ⟨⟨b, o, rfl, hrg⟩, _⟩ := hR k hkx
      have hbw : Below w2.heap.size w2 wr := hO.below
      have hUk := (hUn.at k hkx hlt).later hbw
      have hrg2 : wr.rangeAt b (o + k * 8) xs[k].cells := fun j u hj => by
        have h2 := hrg j u hj
        exact (hbw.cell (p := ⟨b, o + k * 8 + j, none⟩) (World.block_lt_of_cell? w2 ⟨b, o + k * 8 + j, none⟩ h2)).trans h2
      have HUk := Lib.hid hUk
      have Hone := Lib.hid hUk.one
      have hcsp : (Try.prog.info? 34).map (·.size) = some xs[k].cells.length := info_uv
      have h8 := Lib.hid (show (8 : Nat) = xs[k].cells.length from rfl)
      have D := Lib.hid (show xs[k].cells = [.string (toB xs[k].name), xs[k].v1, xs[k].v2, xs[k].v3, xs[k].v4, xs[k].v5, xs[k].v6, .int .i64 xs[k].ret] from rfl)
      have HO := Lib.hid hO
      have hklt : (k : Int) < (us.length : Int) := by omega
      have HT := Lib.hid (show us.take (k + 1) = us.take k ++ [us[k]] from List.take_succ_eq_append_getElem hlt)
      clear hrg hUk hbw hO hR hUn
      generalize xs[k] = X at *
      generalize us[k] = u at *
      generalize X.cells = pcs at *
      go_upto_region 8 with (first
        | (refine wpList_load_mid rfl 34 (.tmp 36) rfl b (o + k * 8) rfl pcs _ hrg2 Try.underlying34 rfl hcsp ?_)
        | (refine wpList_store_new rfl 34 (.tmp 6) (.tmp 37) rfl (Own.start wr) pcs wr.heap.size rfl rfl rfl h8.out hcsp Hone.out ?_))
      intro w3 hO3 _
      have q : ∀ j, j < 8 → w3.cell? ⟨wr.heap.size, j, none⟩ = pcs[j]? := fun j hj => hO3.cell j (by rw [← h8.out]; omega)
      have d0 := q 0 (by decide)
      have d2 := q 2 (by decide)
      have d3 := q 3 (by decide)
      have d4 := q 4 (by decide)
      have d6 := q 6 (by decide)
      rw [D.out] at d0 d2 d3 d4 d6
      simp only [List.getElem?_cons_zero, List.getElem?_cons_succ] at d0 d2 d3 d4 d6
      have O4 := hO3.made_at 9 1 #[.string (toB X.name)] 1 w3.heap.size rfl rfl (by unfold maxLen; decide)
      have O5 := O4.made_at 30 1 #[X.v2, X.v3, X.v4, X.v6, .slice (some ⟨w3.heap.size, 0, none⟩) 1 1] 5 (w3.heap.size + 1) (by simp) rfl (by unfold maxLen; decide)
      have hU3 := HUk.out.later O5.below
      have sN : Sts _ (.slice (some ⟨w3.heap.size, 0, none⟩) 1 1) [X.name] := sts_one O5 (List.mem_cons_of_mem _ (List.mem_cons_self ..))
      have eN : [X.name] = [u.name] := by rw [hU3.name]
      rw [eN] at sN
      have HRow := Lib.hid (show ∀ i, i < 5 → ∃ y l, ((w3.alloc (.cells #[.string (toB X.name)] 9)).alloc (.cells #[X.v2, X.v3, X.v4, X.v6, .slice (some ⟨w3.heap.size, 0, none⟩) 1 1] 30)).cell? ⟨w3.heap.size + 1, i, none⟩ = some y ∧ Sts ((w3.alloc (.cells #[.string (toB X.name)] 9)).alloc (.cells #[X.v2, X.v3, X.v4, X.v6, .slice (some ⟨w3.heap.size, 0, none⟩) 1 1] 30)) y l ∧ (list5 u)[i]? = some l from fun i hi => by
        have hc := O5.cell i (by omega)
        match i, hi with
        | 0, _ => exact ⟨_, _, hc, hU3.s2, rfl⟩
        | 1, _ => exact ⟨_, _, hc, hU3.s3, rfl⟩
        | 2, _ => exact ⟨_, _, hc, hU3.s4, rfl⟩
        | 3, _ => exact ⟨_, _, hc, hU3.s6, rfl⟩
        | 4, _ => exact ⟨_, _, hc, sN, rfl⟩)
      have HO5 := Lib.hid (Own.of_below (HO.out.below.trans (O5.below.mono HO.out.below.size)))
      obtain ⟨a2, m2, c2, e2⟩ := HUk.out.s2.shape
      obtain ⟨a3, m3, c3, e3⟩ := HUk.out.s3.shape
      obtain ⟨a4, m4, c4, e4⟩ := HUk.out.s4.shape
      obtain ⟨a6, m6, c6, e6⟩ := HUk.out.s6.shape
      clear O4 O5 hU3 sN q hO3 D eN
      rw [e2] at d2 HRow HO5
      rw [e3] at d3 HRow HO5
      rw [e4] at d4 HRow HO5
      rw [e6] at d6 HRow HO5
      generalize toB X.name = xnb at *
      clear e2 e3 e4 e6
      go_wp2_with fail
      obtain ⟨W5, hW5⟩ : ∃ W5, W5 = ((w3.alloc (.cells #[.string xnb] 9)).alloc (.cells #[.slice a2 m2 c2, .slice a3 m3 c3, .slice a4 m4 c4, .slice a6 m6 c6, .slice (some ⟨w3.heap.size, 0, none⟩) 1 1] 30)) := ⟨_, rfl⟩
      rw [← hW5] at HRow HO5 ⊢
      clear hW5 d0 d2 d3 d4 d6
      generalize hls : list5 u = ls at *
      have hll : Hid (ls.length = 5) := by rw [← hls]; exact Lib.hid rfl
      have HLS := Lib.hid hls
      clear hls
      go_loopw [51] (fun s wq => ∃ i : Nat, i ≤ 5 ∧ s = .int .i64 i ∧ W5 = wq ∧ Hid (∀ l ∈ ls.take i, [109] ∉ l)) (fun s _ => 5 - (intOf s).toNat)
      case atStart => exact ⟨0, Nat.zero_le _, rfl, rfl, fun l hl => by cases hl⟩
      case round =>
        obtain ⟨i, hi, rfl, rfl, HI⟩ := hrel
        by_cases hil : i < 5
        · obtain ⟨y, l, hc, hs, hl⟩ := HRow.out i hil
          have kh := has14_any y l [109] W5 hs
          obtain ⟨la, ln, lc, rfl⟩ := hs.shape
          have HT2 := Lib.hid (show ls.take (i + 1) = ls.take i ++ [l] from by rw [List.take_add_one, hl]; rfl)
          have hiz : (i : Int) < 5 := by omega
          clear hs hl
          by_cases hm : [109] ∈ l
          · rw [decide_eq_true hm] at kh
            clear hm
            have HBx := Lib.hid (HB2.out.trans (HO5.out.below.mono HB2.out.size))
            go_wp2_with (go_at_call 16; refine kh.mono ?_; rintro e w9 ⟨rfl, rfl⟩)
            go_ret
            exact ⟨rfl, HBx.out⟩
          · rw [decide_eq_false hm] at kh
            have HN := Lib.hid (show ∀ l' ∈ ls.take (i + 1), [109] ∉ l' from fun l' hl' => by
              rw [HT2.out] at hl'
              rcases List.mem_append.1 hl' with h | h
              · exact HI.out l' h
              · rw [List.mem_singleton.1 h]; exact hm)
            clear hm
            go_wp2_with (go_at_call 16; refine kh.mono ?_; rintro e w9 ⟨rfl, rfl⟩)
            go_roundw
            case rel => exact ⟨i + 1, by omega, by go_num, trivial, HN.out⟩
            case measure => simp [intOf]; omega
        · obtain rfl : i = 5 := by omega
          have HN := Lib.hid (show ∀ u' ∈ us.take (k + 1), ∀ l ∈ list5 u', [109] ∉ l from fun u' hu' => by
            rw [HT.out] at hu'
            rcases List.mem_append.1 hu' with h | h
            · exact HA.out u' h
            · rw [List.mem_singleton.1 h, HLS.out]
              have := HI.out
              rwa [List.take_of_length_le (by rw [hll.out]; exact Nat.le_refl _)] at this)
          go_wp2_with fail
          go_roundw
          case rel => exact ⟨k + 1, by omega, by go_num, HO5.out, HN.out⟩
          case measure => simp [intOf]; omega
    · obtain rfl : k = us.length := by omega
      have HNM := Lib.hid (noM_of (by have := HA.out; rwa [List.take_length] at this))
      have HO := Lib.hid hO
      clear hO HA
      clear hlt
      have h0 := HO.out.below
      have hUr := HU.out.later h0
      have kn := new_any hUr (by omega) (fun n hn => by have := HS.out.names n hn; omega) HS.out.bnd
      have hbr := HO.out
      have HBr := Lib.hid (HB2.out.trans (HO.out.below.mono HB2.out.size))
      clear h0 hbr
      go_upto_region 16 with (go_at_call 11; refine kn.mono ?_; rintro e w6 ⟨gv, n, rfl, hb6, hbad, hgood, _⟩; have HBad := Lib.hid hbad; have HGood := Lib.hid hgood; have HB6 := Lib.hid (HO.out.below.trans (hb6.mono HO.out.below.size)); clear hb6 hbad hgood)
      obtain ⟨xs, hU6, hnil6, hsrc6, hrr6⟩ := src_units (HU.out.later HB6.out) HNl.out
      have O7 := (Own.start w6).made_at 34 8 #[.string ⟨#[109]⟩, .slice none 0 0, .slice none 0 0, .slice none 0 0, .slice none 0 0, .slice none 0 0, .slice none 0 0, .int .i64 0] 1 w6.heap.size rfl rfl (by unfold maxLen; decide)
      have HO7 := Lib.hid O7
      have HXN := Lib.hid hnil6
      have HRR := Lib.hid (hrr6 _ _ _ rfl)
      have HXU := Lib.hid hU6
      have Hsrc := Lib.hid (src_later hsrc6 O7.below)
      have Hxl := Lib.hid (show (flatU xs).length = us.length * 8 from by rw [flatU_len, hU6.len])
      have Hb1 := Lib.hid (show 1 + us.length ≤ maxLen from by unfold maxLen; omega)
      have Hb2 := Lib.hid (show (1 + us.length) * 168 ≤ 140737488355328 from by omega)
      clear O7 hnil6 hU6 hsrc6 kn hUr hrr6
      go_upto_region 17 with (at_builtin; refine wpList_append_src rfl (.tmp 66) (.tmp 67) 22 rfl (.slice (some ⟨w6.heap.size, 0, none⟩) 1 1) 1 uvM.cells (.slice av us.length cv) us.length (flatU xs) rfl rfl HO7.out i0 _ 168 Try.underlying22 hi hz0 hz1 hz2 rfl (by decide) Hsrc.out Hxl.out Hb1.out Hb2.out ?_)
      intro v8 w8 hO8
      obtain ⟨a8, c8, hv8, _, _⟩ := Own.sized (h := hO8)
      have hv8' : v8 = .slice a8 (1 + us.length) c8 := hv8
      subst hv8'
      have kn2 := new_any (more_arg hO8 (HXU.out.later hO8.below) HXN.out) (by rw [List.length_cons]; omega) (fun n hn => by
        rcases List.mem_cons.1 hn with rfl | hn
        · show gM.name.length ≤ _
          decide
        · have := HS.out.names n hn; omega) (bnd_more HS.out.bnd)
      have HO8 := Lib.hid hO8.below
      clear hO8 HO7 Hsrc Hb1 Hb2
      go_upto_region 18 with (go_at_call 11; refine kn2.mono ?_; rintro e w9 ⟨gv2, n2, rfl, hb9, hbad, hgood, _⟩; have HBad2 := Lib.hid hbad; have HGood2 := Lib.hid hgood; have HB69 := Lib.hid (HO8.out.trans (hb9.mono HO8.out.size)); clear hb9 hbad hgood)
      have O10 := (Own.start w9).made_at 34 8 #[] 0 w9.heap.size rfl rfl (by unfold maxLen; decide)
      have HO10 := Lib.hid O10
      have HXU9 := Lib.hid (HXU.out.later HB69.out)
      have HLX := Lib.hid HXU.out.len
      have hn16 : (us.length : Int) ≤ 9223372036854775807 := by omega
      clear O10 kn2 HXU
      go_wp2_with fail
      go_loopw [16, 78] (fun s16 s78 wr => ∃ (k g c : Nat), k ≤ us.length ∧ s78 = .int .i64 k ∧ s16 = .slice (some ⟨g, 0, none⟩) k c ∧ Own w9 wr [⟨34, 8, .slice (some ⟨g, 0, none⟩) k c, k, flatU (xs.take k).reverse⟩]) (fun _ s78 _ => us.length - (intOf s78).toNat)
      case atStart => exact ⟨0, _, _, Nat.zero_le _, rfl, rfl, HO10.out⟩
      case round =>
        obtain ⟨k, g, c, hk, rfl, rfl, hOr⟩ := hrel
        by_cases hlt : k < us.length
        · have hkx : k < xs.length := by rw [HLX.out]; exact hlt
          obtain ⟨b, o, rfl, hrg⟩ := HRR.out k hkx
          have hbw : Below w6.heap.size w6 wr := HB69.out.trans (hOr.below.mono HB69.out.size)
          have hrg2 : wr.rangeAt b (o + k * 8) xs[k].cells := fun j u hj => by
            have h2 := hrg j u hj
            exact (hbw.cell (p := ⟨b, o + k * 8 + j, none⟩) (World.block_lt_of_cell? w6 ⟨b, o + k * 8 + j, none⟩ h2)).trans h2
          have Hone := Lib.hid (HXU9.out.at k hkx hlt).one
          have hcsp : (Try.prog.info? 34).map (·.size) = some xs[k].cells.length := info_uv
          have h8 := Lib.hid (show (8 : Nat) = xs[k].cells.length from rfl)
          have HFl := Lib.hid (flatU_snoc hkx)
          have Hl := Lib.hid (show (flatU (xs.take k).reverse).length = k * 8 from by rw [flatU_len, List.length_reverse, List.length_take]; omega)
          have Ho := Lib.hid ((units_take HXU9.out k).ones)
          have HOr := Lib.hid hOr
          have hklt : (k : Int) < (us.length : Int) := by omega
          have Hb1 := Lib.hid (show 1 + k ≤ maxLen from by unfold maxLen; omega)
          have Hb2 := Lib.hid (show (1 + k) * 168 ≤ 140737488355328 from by omega)
          clear hrg hbw hOr
          change wr.rangeAt b (o + k * 8) [.string (toB xs[k].name), xs[k].v1, xs[k].v2, xs[k].v3, xs[k].v4, xs[k].v5, xs[k].v6, .int .i64 xs[k].ret] at hrg2
          change Hid (∀ v ∈ [.string (toB xs[k].name), xs[k].v1, xs[k].v2, xs[k].v3, xs[k].v4, xs[k].v5, xs[k].v6, .int .i64 xs[k].ret], Value.oneCell' v = true) at Hone
          change Hid (flatU (xs.take (k + 1)).reverse = [.string (toB xs[k].name), xs[k].v1, xs[k].v2, xs[k].v3, xs[k].v4, xs[k].v5, xs[k].v6, .int .i64 xs[k].ret] ++ flatU (xs.take k).reverse) at HFl
          generalize xs[k] = X at *
          generalize toB X.name = nb8 at *
          clear hkx
          go_upto_region 22 with (first
            | (refine wpList_load_mid rfl 34 (.tmp 80) rfl b (o + k * 8) rfl [.string nb8, X.v1, X.v2, X.v3, X.v4, X.v5, X.v6, .int .i64 X.ret] _ hrg2 Try.underlying34 rfl info_uv ?_)
            | (refine wpList_store_new rfl 34 (.tmp 18) (.tmp 81) rfl HOr.out [.string nb8, X.v1, X.v2, X.v3, X.v4, X.v5, X.v6, .int .i64 X.ret] wr.heap.size rfl rfl rfl rfl info_uv Hone.out ?_))
          intro w10 hO10 _
          have hr10 := hO10.range 0 8
          have O11 := hO10.made_at 34 8 #[.string nb8, X.v1, X.v2, X.v3, X.v4, X.v5, X.v6, .int .i64 X.ret] 1 w10.heap.size rfl rfl (by unfold maxLen; decide)
          have HO11 := Lib.hid O11
          have Hsrc := Lib.hid (src_own (own_third O11) Ho.out Hl.out)
          clear O11 hO10
          go_wp2_with (first
            | (refine wpList_load_mid rfl 34 (.tmp 18) rfl wr.heap.size 0 rfl [.string nb8, X.v1, X.v2, X.v3, X.v4, X.v5, X.v6, .int .i64 X.ret] _ hr10 Try.underlying34 rfl info_uv ?_)
            | (at_builtin; refine wpList_append_src rfl (.tmp 83) (.tmp 84) 22 rfl (.slice (some ⟨w10.heap.size, 0, none⟩) 1 1) 1 [.string nb8, X.v1, X.v2, X.v3, X.v4, X.v5, X.v6, .int .i64 X.ret] (.slice (some ⟨g, 0, none⟩) k c) k (flatU (xs.take k).reverse) rfl rfl HO11.out i0 _ 168 Try.underlying22 hi hz0 hz1 hz2 rfl (by decide) Hsrc.out Hl.out Hb1.out Hb2.out ?_))
          intro v12 w12 hO12
          obtain ⟨g12, c12, hv12, _⟩ := Own.form (h := cut_oneG hO12) (by show 0 < 1 + k; omega)
          have hv12' : v12 = .slice (some ⟨g12, 0, none⟩) (1 + k) c12 := hv12
          subst hv12'
          have HO12 := Lib.hid (show Own w9 w12 [⟨34, 8, .slice (some ⟨g12, 0, none⟩) (k + 1) c12, k + 1, flatU (xs.take (k + 1)).reverse⟩] from by
            rw [HFl.out, Nat.add_comm k 1]
            exact cut_oneG hO12)
          clear hO12 hr10 HFl
          rw [Nat.add_comm 1 k]
          go_wp2_with fail
          go_roundw
          case rel => exact ⟨k + 1, g12, c12, by omega, by go_num, rfl, HO12.out⟩
          case measure => simp [intOf]; omega
        · obtain rfl : k = us.length := by omega
          have hUb := units_take (HXU9.out.later hOr.below) us.length
          rw [List.take_of_length_le (by rw [HLX.out]; exact Nat.le_refl _), List.take_length] at hUb
          have hOb : Own w9 wr [⟨34, 8, .slice (some ⟨g, 0, none⟩) us.length c, us.reverse.length, flatU xs.reverse⟩] := by
            have := hOr
            rw [List.take_of_length_le (by rw [HLX.out]; exact Nat.le_refl _)] at this
            rw [List.length_reverse]
            exact this
          have kn3 := new_any (uarg_of hOb hUb (fun x hx => HXN.out x (List.mem_reverse.1 hx))) (by rw [List.length_reverse]; omega) (fun n hn => by
            have := HS.out.names n ((names_perm (List.reverse_perm us)).mem_iff.1 hn); omega) (fun u hu => HS.out.bnd u (List.mem_reverse.1 hu))
          have HBr9 := Lib.hid hOr.below
          clear hOr hOb hUb hlt
          go_upto_region 25 with (go_at_call 11; refine kn3.mono ?_; rintro e w13 ⟨gv3, n3, rfl, hb13, hbad, hgood, _⟩; have HBad3 := Lib.hid hbad; have HGood3 := Lib.hid hgood; have HB93 := Lib.hid (HBr9.out.trans (hb13.mono HBr9.out.size)); clear hb13 hbad hgood)
          have hE2 := errU_more HNM.out (by omega)
          have hE3 : errU us.reverse = errU us := errU_perm (List.reverse_perm us)
          have HBA := Lib.hid ((HB2.out.trans (HB6.out.mono HB2.out.size)).trans ((HB69.out.trans (HB93.out.mono HB69.out.size)).mono (HB2.out.trans (HB6.out.mono HB2.out.size)).size))
          rw [hE2, hE3]
          by_cases hE : errU us = 0
          · obtain ⟨g1, rfl, hG⟩ := HGood.out hE
            obtain ⟨g2, rfl, hH⟩ := HGood2.out (hE2.trans hE)
            obtain ⟨g3, rfl, hK⟩ := HGood3.out (hE3.trans hE)
            have hG13 := hG.later (HB69.out.trans (HB93.out.mono HB69.out.size))
            have hH13 := hH.later HB93.out
            have hp1 := pick_all hE
            have hp2 := pick_more HNM.out hE (hE2.trans hE)
            have hp3 : pick (ordU us.reverse) (sortN (namesU us)) = ordU us := by rw [← ordU_same (List.reverse_perm us).symm hE]; exact hp1
            have hnl : (sortN (namesU us)).length = us.length := by rw [sortN_length]; unfold namesU; rw [List.length_map]
            have hnl2 : (sortN (namesU (gM :: us))).length = us.length + 1 := by rw [sortN_length]; unfold namesU; rw [List.length_map, List.length_cons]
            have KG := Lib.hid (fun W (hb : Below w13.heap.size w13 W) => (show Calls Try.prog 13 #[.pointer (some ⟨g1, 0, none⟩)] W fun e w' => ∃ a c, e = .returned (.slice a us.length c) ∧ Below W.heap.size W w' ∧ ∀ W2, Below w'.heap.size w' W2 → Sts W2 (.slice a us.length c) (sortN (namesU us)) from (hG13.later hb).names.mono fun e w' hp => by
              obtain ⟨v', rfl, hO⟩ := hp
              obtain ⟨a, c, rfl, _⟩ := id hO.sts
              refine ⟨a, c, by rw [hnl], hO.below, fun W2 hb2 => ?_⟩
              have := hO.sts.later hb2
              rwa [hnl] at this))
            have KH := Lib.hid (fun W (hb : Below w13.heap.size w13 W) => (show Calls Try.prog 13 #[.pointer (some ⟨g2, 0, none⟩)] W fun e w' => ∃ a c, e = .returned (.slice a (us.length + 1) c) ∧ Below W.heap.size W w' ∧ True from (hH13.later hb).names.mono fun e w' hp => by
              obtain ⟨v', rfl, hO⟩ := hp
              obtain ⟨a, c, rfl, _⟩ := id hO.sts
              exact ⟨a, c, by rw [hnl2], hO.below, trivial⟩))
            have ordF : ∀ {g : Nat} {vs : List GU} {o : List Nm}, GAt w13 g vs o → pick o (sortN (namesU us)) = ordU us → ∀ W (hb : Below w13.heap.size w13 W) vN (hs : Sts W vN (sortN (namesU us))), Calls Try.prog 12 #[.pointer (some ⟨g, 0, none⟩), vN] W fun e w' => ∃ a c, e = .returned (.slice a (ordU us).length c) ∧ Below W.heap.size W w' ∧ ∀ W2, Below w'.heap.size w' W2 → Sts W2 (.slice a (ordU us).length c) (ordU us) := fun hg hp W hb vN hs => ((hg.later hb).order hs).mono fun e w' hq => by
              obtain ⟨v', rfl, hO⟩ := hq
              rw [hp] at hO
              obtain ⟨a, c, rfl, _⟩ := id hO.sts
              exact ⟨a, c, rfl, hO.below, fun W2 hb2 => hO.sts.later hb2⟩
            have OG := Lib.hid (ordF hG13 hp1)
            have OH := Lib.hid (ordF hH13 hp2)
            have OK := Lib.hid (ordF hK hp3)
            have hn16 : (us.length : Int) ≤ 16 := by omega
            rw [hE]
            clear hG hH hK hG13 hH13 hp1 hp2 hp3 hnl hnl2 ordF hE hE2 hE3 kn3
            go_wp2_with (first
            | (have _g := HN5.out; clear _g; go_at_call 13; refine (KG.out w22 HB22.out).mono ?_; rintro e w23 ⟨a23, c23, rfl, hb, hs⟩; have HS23 := Lib.hid hb; have HB23 := Lib.hid (HB22.out.trans (hb.mono (HB22.out).size)); have HN6 := Lib.hid hs; clear hb hs)
            | (have _g := X10.out; clear _g; go_at_call 13; refine (KH.out w21 HB21.out).mono ?_; rintro e w22 ⟨a22, c22, rfl, hb, hs⟩; have HS22 := Lib.hid hb; have HB22 := Lib.hid (HB21.out.trans (hb.mono (HB21.out).size)); have HN5 := Lib.hid hs; clear hb hs)
            | (have _g := HO4.out; clear _g; go_at_call 17; refine (same14_eq _ _ (ordU us) w21 (HO3.out w21 (HS20.out.trans (HS21.out.mono HS20.out.size))) (HO4.out w21 (Below.refl _ _))).mono ?_; rintro e w99 ⟨rfl, rfl⟩; have X10 := Lib.hid True.intro)
            | (have _g := HN4.out; clear _g; go_at_call 12; refine (OK.out w20 HB20.out _ (HN4.out _ (Below.refl _ _))).mono ?_; rintro e w21 ⟨a21, c21, rfl, hb, hs⟩; have HS21 := Lib.hid hb; have HB21 := Lib.hid (HB20.out.trans (hb.mono (HB20.out).size)); have HO4 := Lib.hid hs; clear hb hs)
            | (have _g := HO3.out; clear _g; go_at_call 13; refine (KG.out w19 HB19.out).mono ?_; rintro e w20 ⟨a20, c20, rfl, hb, hs⟩; have HS20 := Lib.hid hb; have HB20 := Lib.hid (HB19.out.trans (hb.mono (HB19.out).size)); have HN4 := Lib.hid hs; clear hb hs)
            | (have _g := HN3.out; clear _g; go_at_call 12; refine (OG.out w18 HB18.out _ (HN3.out _ (Below.refl _ _))).mono ?_; rintro e w19 ⟨a19, c19, rfl, hb, hs⟩; have HS19 := Lib.hid hb; have HB19 := Lib.hid (HB18.out.trans (hb.mono (HB18.out).size)); have HO3 := Lib.hid hs; clear hb hs)
            | (have _g := X5.out; clear _g; go_at_call 13; refine (KG.out w17 HB17.out).mono ?_; rintro e w18 ⟨a18, c18, rfl, hb, hs⟩; have HS18 := Lib.hid hb; have HB18 := Lib.hid (HB17.out.trans (hb.mono (HB17.out).size)); have HN3 := Lib.hid hs; clear hb hs)
            | (have _g := HO2.out; clear _g; go_at_call 17; refine (same14_eq _ _ (ordU us) w17 (HO1.out w17 (HS16.out.trans (HS17.out.mono HS16.out.size))) (HO2.out w17 (Below.refl _ _))).mono ?_; rintro e w99 ⟨rfl, rfl⟩; have X5 := Lib.hid True.intro)
            | (have _g := HN2.out; clear _g; go_at_call 12; refine (OH.out w16 HB16.out _ (HN2.out _ (Below.refl _ _))).mono ?_; rintro e w17 ⟨a17, c17, rfl, hb, hs⟩; have HS17 := Lib.hid hb; have HB17 := Lib.hid (HB16.out.trans (hb.mono (HB16.out).size)); have HO2 := Lib.hid hs; clear hb hs)
            | (have _g := HO1.out; clear _g; go_at_call 13; refine (KG.out w15 HB15.out).mono ?_; rintro e w16 ⟨a16, c16, rfl, hb, hs⟩; have HS16 := Lib.hid hb; have HB16 := Lib.hid (HB15.out.trans (hb.mono (HB15.out).size)); have HN2 := Lib.hid hs; clear hb hs)
            | (have _g := HN1.out; clear _g; go_at_call 12; refine (OG.out w14 HB14.out _ (HN1.out _ (Below.refl _ _))).mono ?_; rintro e w15 ⟨a15, c15, rfl, hb, hs⟩; have HS15 := Lib.hid hb; have HB15 := Lib.hid (HB14.out.trans (hb.mono (HB14.out).size)); have HO1 := Lib.hid hs; clear hb hs)
            | (go_at_call 13; refine (KG.out w13 (Below.refl _ _)).mono ?_; rintro e w14 ⟨a14, c14, rfl, hb, hs⟩; have HS14 := Lib.hid hb; have HB14 := Lib.hid ((Below.refl w13.heap.size w13).trans (hb.mono (Below.refl w13.heap.size w13).size)); have HN1 := Lib.hid hs; clear hb hs))
            go_ret
            exact ⟨rfl, HBA.out.trans (HB23.out.mono HBA.out.size)⟩
          · have e1 := HBad.out hE
            have e2 := HBad2.out (by rw [hE2]; exact hE)
            have e3 := HBad3.out (by rw [hE3]; exact hE)
            subst e1 e2 e3
            have hx2 : (errU us == 0) = false := beq_eq_false_iff_ne.2 hE
            have HX := Lib.hid hE
            generalize errU us = x at *
            clear hE hE2 hE3 kn3
            go_wp2_with fail
            all_goals first
              | exact absurd rfl HX.out
              | (go_ret; exact ⟨rfl, HBA.out⟩)
end Go.Proofs.Ytnpadnghocofdaa
