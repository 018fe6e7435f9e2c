/- Small. -/
import Derived.Test.YtnjabanjgckeoaaG17
namespace Go.Proofs.Ytnjabanjgckeoaa
open Go.RowKit
open Go.ChangeMaps (setBlock)
set_option linter.unusedVariables false
set_option linter.unusedSimpArgs false
set_option maxRecDepth 100000

def okL (l : List Nm) : Prop := l.length ≤ 10 ∧ ∀ s ∈ l, s.length ≤ 60
def SmallU (us : List GU) : Prop := us.length ≤ 20 ∧ ∀ u ∈ us, ∀ l ∈ u.lists ++ [[u.name]], okL l
def SmallPost (w : World) (us : List GU) (e : Ending) (w' : World) : Prop := Below w.heap.size w w' ∧ (e = .returned (.int .i64 0) ∨ e = .returned (.int .i64 1) ∧ SmallU us)
theorem SmallU.names {us : List GU} (h : SmallU us) : ∀ n ∈ namesU us, n.length ≤ 60 := fun n hn => by
  obtain ⟨u, hu, rfl⟩ := mem_names.1 hn
  exact (h.2 u hu [u.name] (by simp)).2 _ (List.mem_singleton.2 rfl)
theorem SmallU.bnd {us : List GU} (h : SmallU us) : ∀ u ∈ us, Bnd u := fun u hu => by
  have k := fun l (hl : l ∈ u.lists) => (h.2 u hu l (List.mem_append_left _ hl)).1
  refine bnd_small ⟨?_, ?_, ?_, ?_, ?_, ?_⟩
  · have := k u.fi (by simp [GU.lists]); omega
  · have := k u.af (by simp [GU.lists]); omega
  · have := k u.be (by simp [GU.lists]); omega
  · have := k u.re (by simp [GU.lists]); omega
  · have := k u.wa (by simp [GU.lists]); omega
  · have := k u.pa (by simp [GU.lists]); omega
set_option maxHeartbeats 8000000 in
theorem small_any {w : World} {v : Value} {us : List GU} (h : UArg w v us) (hlen : us.length ≤ maxLen) :
    Calls Try.prog 5 #[v] w (SmallPost w us) := by
  obtain ⟨a, c, xs, rfl, hU, hr⟩ := h
  have hn : (us.length : Int) ≤ 9223372036854775807 := by unfold maxLen at hlen; omega
  by_cases hmany : 20 < us.length
  · have hmi : (20 : Int) < (us.length : Int) := by omega
    clear hU hr hlen hmany
    go_enter Try.func5, Try.ntmps5
    go_wp2_with fail
    go_ret
    exact ⟨Below.refl _ _, .inl rfl⟩
  have hfi : (us.length : Int) ≤ 20 := by omega
  have HF := Lib.hid (show us.length ≤ 20 by omega)
  have HU := Lib.hid hU
  have HR := Lib.hid hr
  clear hU hr hlen hmany
  go_enter Try.func5, Try.ntmps5
  go_wp2_with fail
  go_loopw [14] (fun s wr => ∃ k : Nat, k ≤ us.length ∧ s = .int .i64 k ∧ Below w.heap.size w wr ∧ Hid (∀ u ∈ us.take k, ∀ l ∈ u.lists ++ [[u.name]], okL l)) (fun s _ => us.length - (intOf s).toNat)
  case atStart => exact ⟨0, Nat.zero_le _, rfl, Below.refl _ _, fun u hu => by cases hu⟩
  case round =>
    obtain ⟨k, hk, rfl, hbw, HA⟩ := hrel
    by_cases hlt : k < us.length
    · have hkx : k < xs.length := by rw [HU.out.len]; exact hlt
      obtain ⟨⟨b, o, rfl, hrg⟩, _⟩ := HR.out k hkx
      have hUk := (HU.out.at k hkx hlt).later hbw
      have hrg2 : wr.rangeAt b (o + k * 8) xs[k].cells := fun j u hj => by
        have h2 := hrg j u hj
        exact (hbw.cell (p := ⟨b, o + k * 8 + j, none⟩) (World.block_lt_of_cell? w ⟨b, o + k * 8 + j, none⟩ h2)).trans h2
      have HUk := Lib.hid hUk
      have Hone := Lib.hid hUk.one
      have hcsp : (Try.prog.info? 44).map (·.size) = some xs[k].cells.length := info_uv
      have h8 := Lib.hid (show (8 : Nat) = xs[k].cells.length from rfl)
      have D := Lib.hid (show xs[k].cells = [.string (toB xs[k].name), xs[k].v1, xs[k].v2, xs[k].v3, xs[k].v4, xs[k].v5, xs[k].v6, .int .i64 xs[k].ret] from rfl)
      have HBW := Lib.hid hbw
      have hklt : (k : Int) < (us.length : Int) := by omega
      have HT := Lib.hid (show us.take (k + 1) = us.take k ++ [us[k]] from List.take_succ_eq_append_getElem hlt)
      clear hrg hUk hbw
      generalize xs[k] = X at *
      generalize X.cells = pcs at *
      go_upto_region 6 with (first
        | (refine wpList_load_mid rfl 44 (.tmp 16) rfl b (o + k * 8) rfl pcs _ hrg2 Try.underlying44 rfl hcsp ?_)
        | (refine wpList_store_new rfl 44 (.tmp 4) (.tmp 17) rfl (Own.start wr) pcs wr.heap.size rfl rfl rfl h8.out hcsp Hone.out ?_))
      intro w3 hO3 _
      have q : ∀ j, j < 8 → w3.cell? ⟨wr.heap.size, j, none⟩ = pcs[j]? := fun j hj => hO3.cell j (by rw [← h8.out]; omega)
      have d0 := q 0 (by decide)
      have d1 := q 1 (by decide)
      have d2 := q 2 (by decide)
      have d3 := q 3 (by decide)
      have d4 := q 4 (by decide)
      have d5 := q 5 (by decide)
      have d6 := q 6 (by decide)
      rw [D.out] at d0 d1 d2 d3 d4 d5 d6
      simp only [List.getElem?_cons_zero, List.getElem?_cons_succ] at d0 d1 d2 d3 d4 d5 d6
      have O4 := hO3.made_at 9 1 #[.string (toB X.name)] 1 w3.heap.size rfl rfl (by unfold maxLen; decide)
      have O5 := O4.made_at 23 1 #[X.v1, X.v2, X.v3, X.v4, X.v5, X.v6, .slice (some ⟨w3.heap.size, 0, none⟩) 1 1] 7 (w3.heap.size + 1) (by simp) rfl (by unfold maxLen; decide)
      have hU3 := HUk.out.later O5.below
      have sN : Sts _ (.slice (some ⟨w3.heap.size, 0, none⟩) 1 1) [X.name] := sts_one O5 (List.mem_cons_of_mem _ (List.mem_cons_self ..))
      have eN : [X.name] = [us[k].name] := by rw [hU3.name]
      rw [eN] at sN
      have hrow : ∀ i, i < 7 → ∃ y l, ((w3.alloc (.cells #[.string (toB X.name)] 9)).alloc (.cells #[X.v1, X.v2, X.v3, X.v4, X.v5, X.v6, .slice (some ⟨w3.heap.size, 0, none⟩) 1 1] 23)).cell? ⟨w3.heap.size + 1, i, none⟩ = some y ∧ Sts ((w3.alloc (.cells #[.string (toB X.name)] 9)).alloc (.cells #[X.v1, X.v2, X.v3, X.v4, X.v5, X.v6, .slice (some ⟨w3.heap.size, 0, none⟩) 1 1] 23)) y l ∧ (us[k].lists ++ [[us[k].name]])[i]? = some l := fun i hi => by
        have hc := O5.cell i (by omega)
        match i, hi with
        | 0, _ => exact ⟨_, _, hc, hU3.s1, rfl⟩
        | 1, _ => exact ⟨_, _, hc, hU3.s2, rfl⟩
        | 2, _ => exact ⟨_, _, hc, hU3.s3, rfl⟩
        | 3, _ => exact ⟨_, _, hc, hU3.s4, rfl⟩
        | 4, _ => exact ⟨_, _, hc, hU3.s5, rfl⟩
        | 5, _ => exact ⟨_, _, hc, hU3.s6, rfl⟩
        | 6, _ => exact ⟨_, _, hc, sN, rfl⟩
      have HRow := Lib.hid hrow
      have HB5 := Lib.hid (HBW.out.trans (O5.below.mono HBW.out.size))
      obtain ⟨a1, m1, c1, e1⟩ := HUk.out.s1.shape
      obtain ⟨a2, m2, c2, e2⟩ := HUk.out.s2.shape
      obtain ⟨a3, m3, c3, e3⟩ := HUk.out.s3.shape
      obtain ⟨a4, m4, c4, e4⟩ := HUk.out.s4.shape
      obtain ⟨a5, m5, c5, e5⟩ := HUk.out.s5.shape
      obtain ⟨a6, m6, c6, e6⟩ := HUk.out.s6.shape
      clear hrow O4 O5 hU3 sN q hO3 D eN
      rw [e1] at d1 HRow HB5
      rw [e2] at d2 HRow HB5
      rw [e3] at d3 HRow HB5
      rw [e4] at d4 HRow HB5
      rw [e5] at d5 HRow HB5
      rw [e6] at d6 HRow HB5
      generalize toB X.name = xnb at *
      clear e1 e2 e3 e4 e5 e6
      go_wp2_with fail
      obtain ⟨W5, hW5⟩ : ∃ W5, W5 = ((w3.alloc (.cells #[.string xnb] 9)).alloc (.cells #[.slice a1 m1 c1, .slice a2 m2 c2, .slice a3 m3 c3, .slice a4 m4 c4, .slice a5 m5 c5, .slice a6 m6 c6, .slice (some ⟨w3.heap.size, 0, none⟩) 1 1] 23)) := ⟨_, rfl⟩
      rw [← hW5] at HRow HB5 ⊢
      clear hW5 d0 d1 d2 d3 d4 d5 d6
      generalize hls : us[k].lists ++ [[us[k].name]] = ls at *
      have hll : Hid (ls.length = 7) := by rw [← hls]; rfl
      have HLS := Lib.hid hls
      clear hls
      go_loopw [35] (fun s wq => ∃ i : Nat, i ≤ 7 ∧ s = .int .i64 i ∧ W5 = wq ∧ Hid (∀ l ∈ ls.take i, okL l)) (fun s _ => 7 - (intOf s).toNat)
      case atStart => exact ⟨0, Nat.zero_le _, rfl, rfl, fun l hl => by cases hl⟩
      case round =>
        obtain ⟨i, hi, rfl, rfl, HI⟩ := hrel
        by_cases hil : i < 7
        · obtain ⟨y, l, hc, hs, hl⟩ := HRow.out i hil
          obtain ⟨la, lc, rfl, h2, h3, h4⟩ := id hs
          have hlm : (l.length : Int) ≤ 9223372036854775807 := by unfold maxLen at h3; omega
          have HT2 := Lib.hid (show ls.take (i + 1) = ls.take i ++ [l] from by rw [List.take_add_one, hl]; rfl)
          have H4 := Lib.hid h4
          have hiz : (i : Int) < 7 := by omega
          clear hs h2 h3 h4 hl
          by_cases hten : 10 < l.length
          · have hti : (10 : Int) < (l.length : Int) := by omega
            clear hten
            go_wp2_with fail
            go_ret
            exact ⟨HB5.out, .inl rfl⟩
          · have hti : (l.length : Int) ≤ 10 := by omega
            have HTen := Lib.hid (show l.length ≤ 10 by omega)
            clear hten
            go_wp2_with fail
            go_loopw [44] (fun s wq => ∃ j : Nat, j ≤ l.length ∧ s = .int .i64 j ∧ W5 = wq ∧ Hid (∀ x ∈ l.take j, x.length ≤ 60)) (fun s _ => l.length - (intOf s).toNat)
            case atStart => exact ⟨0, Nat.zero_le _, rfl, rfl, fun x hx => by cases hx⟩
            case round =>
              obtain ⟨j, hj, rfl, rfl, HJ⟩ := hrel
              by_cases hjl : j < l.length
              · obtain ⟨b9, o9, rfl, _, hc9⟩ := H4.out (by omega)
                have ck := hc9 j hjl
                have hjz : (j : Int) < (l.length : Int) := by omega
                have HT3 := Lib.hid (show l.take (j + 1) = l.take j ++ [l[j]] from List.take_succ_eq_append_getElem hjl)
                have hsz := toB_size l[j]
                clear hc9
                generalize l[j] = x at *
                by_cases hsix : 60 < x.length
                · have hzz : (60 : Int) < ((toB x).size : Int) := by rw [hsz]; omega
                  clear hsix hsz
                  generalize toB x = xb at *
                  go_wp2_with fail
                  go_ret
                  exact ⟨HB5.out, .inl rfl⟩
                · have hzz : ((toB x).size : Int) ≤ 60 := by rw [hsz]; omega
                  have HJ2 := Lib.hid (show ∀ y ∈ l.take (j + 1), y.length ≤ 60 from fun y hy => by
                    rw [HT3.out] at hy
                    rcases List.mem_append.1 hy with hy | hy
                    · exact HJ.out y hy
                    · rw [List.mem_singleton.1 hy]; omega)
                  clear hsix hsz
                  generalize toB x = xb at *
                  go_wp2_with fail
                  go_roundw
                  case rel => exact ⟨j + 1, by omega, by go_num, trivial, HJ2⟩
                  case measure => simp [intOf]; omega
              · have HI2 := Lib.hid (show ∀ m ∈ ls.take (i + 1), okL m from fun m hm => by
                  rw [HT2.out] at hm
                  rcases List.mem_append.1 hm with hm | hm
                  · exact HI.out m hm
                  · rw [List.mem_singleton.1 hm]
                    refine ⟨HTen.out, fun x hx => HJ.out x ?_⟩
                    rwa [List.take_of_length_le (by omega)])
                have hje : j = l.length := by omega
                subst hje
                clear hjl
                go_wp2_with fail
                go_roundw
                case rel => exact ⟨i + 1, by omega, by go_num, trivial, HI2⟩
                case measure => simp [intOf]; omega
        · obtain rfl : i = 7 := by omega
          have HA2 := Lib.hid (show ∀ u ∈ us.take (k + 1), ∀ l ∈ u.lists ++ [[u.name]], okL l from fun u hu => by
            rw [HT.out] at hu
            rcases List.mem_append.1 hu with hu | hu
            · exact HA.out u hu
            · rw [List.mem_singleton.1 hu, HLS.out]
              intro l hl
              exact HI.out l (by rw [List.take_of_length_le (by rw [hll.out]; exact Nat.le_refl _)]; exact hl))
          go_wp2_with fail
          go_roundw
          case rel => exact ⟨k + 1, by omega, by go_num, HB5.out, HA2⟩
          case measure => simp [intOf]; omega
    · obtain rfl : k = us.length := by omega
      have HE := Lib.hid (show SmallU us from ⟨HF.out, by have := HA.out; rwa [List.take_length] at this⟩)
      have HBW := Lib.hid hbw
      clear hbw
      go_wp2_with fail
      go_ret
      exact ⟨HBW.out, .inr ⟨rfl, HE.out⟩⟩
end Go.Proofs.Ytnjabanjgckeoaa
