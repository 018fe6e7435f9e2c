/- The document's plain. -/
import Derived.Test.YtnjabanjgckeoaaJ18
namespace Go.Proofs.Ytnjabanjgckeoaa
open Go.RowKit
open Go.ChangeMaps (setBlock)
set_option linter.unusedVariables false
set_option linter.unusedSimpArgs false
set_option maxRecDepth 100000

set_option maxHeartbeats 4000000 in
theorem plain13_any (w : World) {x : UV} {u : GU} (h : UVIs w x u) : Calls Try.prog 30 #[x.val] w fun e w' => e = .returned x.val ∧ Below w.heap.size w w' := by
  obtain ⟨a0, m0, c0, h0⟩ := h.s1.shape
  obtain ⟨a1, m1, c1, h1⟩ := h.s2.shape
  obtain ⟨a2, m2, c2, h2⟩ := h.s3.shape
  obtain ⟨a3, m3, c3, h3⟩ := h.s4.shape
  obtain ⟨a4, m4, c4, h4⟩ := h.s5.shape
  obtain ⟨a5, m5, c5, h5⟩ := h.s6.shape
  have e : x.val = .agg #[.string (toB x.name), .slice a0 m0 c0, .slice a1 m1 c1, .slice a2 m2 c2, .slice a3 m3 c3, .slice a4 m4 c4, .slice a5 m5 c5, .int .i64 x.ret] := by
    unfold UV.val UV.cells
    rw [h0, h1, h2, h3, h4, h5]
  rw [e]
  clear e h0 h1 h2 h3 h4 h5 h
  generalize toB x.name = ns
  generalize x.ret = ru
  go_enter Try.func30, Try.ntmps30
  go_wp2_with fail
  have hg : ((w.alloc (.cells #[.string ns, .slice a0 m0 c0, .slice a1 m1 c1, .slice a2 m2 c2, .slice a3 m3 c3, .slice a4 m4 c4, .slice a5 m5 c5, .int .i64 ru] 44)).alloc (.cells #[.string ns, .slice a0 m0 c0, .slice a1 m1 c1, .slice a2 m2 c2, .slice a3 m3 c3, .slice a4 m4 c4, .slice a5 m5 c5, .int .i64 ru] 62)).heap[w.heap.size + 1]? = some (.cells #[.string ns, .slice a0 m0 c0, .slice a1 m1 c1, .slice a2 m2 c2, .slice a3 m3 c3, .slice a4 m4 c4, .slice a5 m5 c5, .int .i64 ru] 62) := by
    have := World.alloc_heap_new (w.alloc (.cells #[.string ns, .slice a0 m0 c0, .slice a1 m1 c1, .slice a2 m2 c2, .slice a3 m3 c3, .slice a4 m4 c4, .slice a5 m5 c5, .int .i64 ru] 44)) (.cells #[.string ns, .slice a0 m0 c0, .slice a1 m1 c1, .slice a2 m2 c2, .slice a3 m3 c3, .slice a4 m4 c4, .slice a5 m5 c5, .int .i64 ru] 62)
    rwa [World.size_alloc] at this
  exact bodyPost_ret (results_cell_row Try.results30 _ _ (w.heap.size + 1) 62 _ (0, 0) _ rfl hg Try.underlying62 rfl (by kernel_rfl)) rfl ⟨rfl, ((Below.refl _ w).alloc (Nat.le_refl _) _).alloc (by simp) _⟩

theorem info_dunit : (Try.prog.info? 62).map (fun i => (i.size, i.bytes)) = some (8, 168) := by kernel_rfl
theorem info_dunit_ex : ∃ i z, Try.prog.info? 62 = some i ∧ i.zero = some z ∧ i.size = 8 ∧ i.bytes = 168 ∧ z.cells.size = 8 := by
  have h0 : (Try.prog.info? 62).map (fun i => i.zero.map fun z => z.cells.size) = some (some 8) := by kernel_rfl
  have := info_dunit
  obtain ⟨i, h1, h2⟩ := Option.map_eq_some_iff.1 this
  simp only [Prod.mk.injEq] at h2
  rw [h1] at h0
  simp only [Option.map_some, Option.some.injEq] at h0
  obtain ⟨z, hz, hzz⟩ := Option.map_eq_some_iff.1 h0
  exact ⟨i, z, h1, hz, h2.1, h2.2, hzz⟩
theorem src_cells (w : World) (cs : List Value) (T : TypeId) (h : ∀ v ∈ cs, v.oneCell' = true) : Src (w.alloc (.cells cs.toArray T)) (.slice (some ⟨w.heap.size, 0, none⟩) 1 1) 1 cs := by
  refine .inr ⟨_, _, rfl, fun j u hj => ?_, h⟩
  rw [Addr.add_mid, Nat.zero_add, World.cell?_alloc_new]
  simpa using hj
theorem flatU_more (xs : List UV) {k : Nat} (hk : k < xs.length) : flatU (xs.take (k + 1)) = flatU (xs.take k) ++ xs[k].cells := by
  unfold flatU
  rw [List.take_succ_eq_append_getElem hk, List.map_append, List.flatten_append]
  simp
theorem du_of {w w' : World} {v : Value} {xs : List UV} {us : List GU} (hU : Units w' xs us) (hl : us.length ≤ 1000000) (hO : Own w w' [⟨62, 8, v, us.length, flatU xs⟩]) : DU w' v us := by
  obtain ⟨a, c, rfl, _, _⟩ := Own.sized (h := hO)
  refine ⟨a, c, xs, rfl, hl, hU, fun i hi => ?_⟩
  have hlen : 0 < us.length := by rw [← hU.len]; omega
  obtain ⟨g, cap, e, _⟩ := Own.form (h := hO) hlen
  injection e with e1 e2 e3
  subst e1
  refine ⟨g, 0, rfl, fun j u hj => ?_⟩
  have hj8 : j < 8 := (List.getElem?_eq_some_iff.1 hj).1
  have hil : i < us.length := by rw [← hU.len]; exact hi
  have h9 := Own.cell (h := hO) (i * 8 + j) (by omega)
  rw [Nat.zero_add, h9]
  have h8 := flatU_at xs i hi
  rw [← h8, List.getElem?_take_of_lt hj8, List.getElem?_drop] at hj
  exact hj
set_option maxHeartbeats 8000000 in
theorem plain15_any (w : World) {v : Value} {us : List GU} (h : UArg w v us) (hl : us.length ≤ 1000) : Calls Try.prog 8 #[v] w fun e w' => ∃ (ad : Addr) (cd : Nat), e = .returned (.slice (some ad) us.length cd) ∧ DU w' (.slice (some ad) us.length cd) us ∧ Below w.heap.size w w' := by
  obtain ⟨i0, z0, hi, hz0, hz1, hz2, hz3⟩ := info_dunit_ex
  have HZ3 := Lib.hid hz3
  clear hz3
  obtain ⟨a, c, xs, rfl, hU, hR⟩ := h
  have HU := Lib.hid hU
  have HR := Lib.hid hR
  have hlz : (us.length : Int) ≤ 1000 := by omega
  have HXL := Lib.hid hU.len
  clear hU hR
  go_enter Try.func8, Try.ntmps8
  go_wp2_with fail
  go_loopw [3, 9] (fun s3 s9 wr => ∃ (k : Nat) (ad : Addr) (c3 : Nat), k ≤ us.length ∧ s9 = .int .i64 k ∧ s3 = .slice (some ad) k c3 ∧ Own w wr [⟨62, 8, .slice (some ad) k c3, k, flatU (xs.take k)⟩]) (fun _ s9 _ => us.length - (intOf s9).toNat)
  case atStart => exact ⟨0, ⟨w.heap.size, 0, none⟩, 0, Nat.zero_le _, rfl, rfl, (Own.start w).made 62 8 #[] 0 rfl (by unfold maxLen; omega)⟩
  case round =>
    obtain ⟨k, a3, c3, hk, rfl, rfl, hO⟩ := hrel
    by_cases hlt : k < us.length
    · have hkx : k < xs.length := by rw [HXL.out]; exact hlt
      obtain ⟨⟨b, o, rfl, hrg⟩, _⟩ := HR.out k hkx
      have hUk := HU.out.at k hkx hlt
      have hrg2 : wr.rangeAt b (o + k * 8) xs[k].cells := rangeD_later hO.below hrg
      have KP := Lib.hid (fun (W : World) (hb : Below w.heap.size w W) => plain13_any W (hUk.later hb))
      have Hone := Lib.hid hUk.one
      have Hmore := Lib.hid (flatU_more xs hkx)
      have HO := Lib.hid hO
      have hklt : (k : Int) < (us.length : Int) := by omega
      clear hrg hUk hO
      generalize xs[k] = X at *
      unfold UV.val at KP
      unfold UV.cells at hrg2 Hone Hmore KP
      generalize toB X.name = xnb at *
      generalize X.v1 = y1 at *
      generalize X.v2 = y2 at *
      generalize X.v3 = y3 at *
      generalize X.v4 = y4 at *
      generalize X.v5 = y5 at *
      generalize X.v6 = y6 at *
      generalize X.ret = yr at *
      go_upto_region 5 with (first
        | (refine wpList_load_mid rfl 44 (.tmp 11) rfl b (o + k * 8) rfl [.string xnb, y1, y2, y3, y4, y5, y6, .int .i64 yr] _ hrg2 Try.underlying44 rfl info_uv ?_)
        | (refine wpList_store_new rfl 44 (.tmp 5) (.tmp 12) rfl HO.out [.string xnb, y1, y2, y3, y4, y5, y6, .int .i64 yr] wr.heap.size rfl rfl rfl rfl info_uv Hone.out ?_))
      intro w4 hO4 _
      have r4 : w4.rangeAt wr.heap.size 0 [.string xnb, y1, y2, y3, y4, y5, y6, .int .i64 yr] := fun j u hj => by
        have hj8 : j < 8 := (List.getElem?_eq_some_iff.1 hj).1
        have h9 := hO4.cell j (by show j < 1 * 8; omega)
        rw [Nat.zero_add, h9]; exact hj
      have kp := Lib.hid (KP.out w4 hO4.below)
      have HO4 := Lib.hid hO4.tail
      clear hO4
      have Hb1 := Lib.hid (show k + 1 ≤ maxLen from by unfold maxLen; omega)
      have Hb2 := Lib.hid (show (k + 1) * 168 ≤ 140737488355328 from by omega)
      go_wp2_with (refine wpList_load_mid rfl 44 (.tmp 5) rfl wr.heap.size 0 rfl [.string xnb, y1, y2, y3, y4, y5, y6, .int .i64 yr] _ r4 Try.underlying44 rfl info_uv ?_)
      go_at_call 30
      refine kp.out.mono ?_
      rintro e w5 ⟨rfl, hb5⟩
      have HO5 := Lib.hid ((HO4.out.later hb5).alloc (.cells #[.string xnb, y1, y2, y3, y4, y5, y6, .int .i64 yr] 62))
      have Hsrc := Lib.hid (src_cells w5 [.string xnb, y1, y2, y3, y4, y5, y6, .int .i64 yr] 62 Hone.out)
      clear hb5 kp KP r4 hrg2
      go_wp2_with (at_builtin; refine wpList_append_src rfl (.tmp 13) (.tmp 16) 33 rfl (.slice (some a3) k c3) k (flatU (xs.take k)) (.slice (some ⟨w5.heap.size, 0, none⟩) 1 1) 1 [.string xnb, y1, y2, y3, y4, y5, y6, .int .i64 yr] rfl rfl HO5.out i0 z0 168 Try.underlying33 hi hz0 hz1 hz2 HZ3.out (by decide) Hsrc.out rfl Hb1.out Hb2.out ?_)
      intro v7 w7 hO7
      obtain ⟨g8, c8, hv8, _, _, _, _⟩ := Own.form (h := hO7) (by omega)
      subst hv8
      rw [← Hmore.out] at hO7
      have HO7 := Lib.hid hO7
      clear hO7
      go_wp2_with fail
      go_roundw
      case rel => exact ⟨k + 1, ⟨g8, 0, none⟩, c8, by omega, by go_num, rfl, HO7.out⟩
      case measure => simp [intOf]; omega
    · obtain rfl : k = us.length := by omega
      have HD := Lib.hid (show DU wr (.slice (some a3) us.length c3) us from du_of (HU.out.later hO.below) (by omega) (by
        have e : xs.take us.length = xs := List.take_of_length_le (by have := HXL.out; omega)
        rw [e] at hO; exact hO))
      have HB := Lib.hid hO.below
      clear hO
      go_wp2_with fail
      go_ret
      exact ⟨_, _, rfl, HD.out, HB.out⟩
end Go.Proofs.Ytnjabanjgckeoaa
