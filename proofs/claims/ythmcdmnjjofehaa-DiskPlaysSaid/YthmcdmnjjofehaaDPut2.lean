/- The document's Put, done. -/
import Derived.Test.YthmcdmnjjofehaaDPut
import Derived.Deep.DeepCutAuto
import Derived.Deep.RegionLaw
namespace Go.Proofs.Ythmcdmnjjofehaa
open Go.RowKit
set_option linter.unusedVariables false
set_option linter.unusedSimpArgs false
attribute [local go_sem ↓] wp_load_64 wp_build_w wp_slice_w Go.wp_at_zero Go.wp_at_succ

theorem flat_w {K : Nat} {C : List (Nat × List Value)} (hs : ∀ p ∈ C, p.1 < K ∧ isSec p.2) : ∀ u ∈ (C.map wcells).flatten, u.oneCell' = true := by
  intro u hu
  obtain ⟨s, hs', hu⟩ := List.mem_flatten.1 hu
  obtain ⟨p, hp, rfl⟩ := List.mem_map.1 hs'
  rcases List.mem_cons.1 hu with rfl | hu
  · rfl
  · exact (hs p hp).2.2 u hu
/-- One write, in a row of its own. -/
def rW (g : Nat) (x : Nat) (s : List Value) : Rw := ⟨62, 65, .slice (some ⟨g, 0, none⟩) 1 1, 1, Value.int .i64 (x : Int) :: s⟩
theorem Own.wr {W0 w : World} {L : List Rw} (h : Own W0 w L) (x : Nat) (s : List Value) (hs : s.length = 64) (g : Nat) (hg : g = w.heap.size) : Own W0 (w.alloc (.cells (Value.int .i64 (x : Int) :: s).toArray 62)) (rW g x s :: L) :=
  h.made_at 62 65 (Value.int .i64 (x : Int) :: s).toArray 1 g hg (by simp [hs]) (by unfold maxLen; decide)
theorem rW_src {W0 w : World} {g x : Nat} {s : List Value} {L : List Rw} (h : Own W0 w (rW g x s :: L)) (h1 : ∀ u ∈ s, u.oneCell' = true) : Src w (.slice (some ⟨g, 0, none⟩) 1 1) 1 (Value.int .i64 (x : Int) :: s) :=
  Own.src (h := h) (fun u hu => by
    rcases List.mem_cons.1 hu with rfl | hu
    · rfl
    · exact h1 u hu)
theorem rSec_ok {W0 w : World} {g : Nat} {s : List Value} {L : List Rw} (h : Own W0 w (rSec g s :: L)) (hs : s.length = 64) : okSec w (.pointer (some ⟨g, 0, none⟩)) ∧ secOf w (.pointer (some ⟨g, 0, none⟩)) = .agg s.toArray := sec_is (h.secRange hs) hs

theorem rB_norm {W0 w : World} {v : Value} {C : List (Nat × List Value)} {L : List Rw} (h : Own W0 w (⟨62, 65, v, 0 + C.length, [] ++ (C.map wcells).flatten⟩ :: L)) : Own W0 w (rB v C :: L) := by
  rw [Nat.zero_add, List.nil_append] at h
  exact h
theorem rB_snoc {W0 w : World} {v : Value} {C : List (Nat × List Value)} {x : Nat} {s : List Value} {L : List Rw} (h : Own W0 w (⟨62, 65, v, C.length + 1, (C.map wcells).flatten ++ (Value.int .i64 (x : Int) :: s)⟩ :: L)) : Own W0 w (rB v (C ++ [(x, s)]) :: L) := by
  have e : (C.map wcells).flatten ++ Value.int .i64 (x : Int) :: s = ((C ++ [(x, s)]).map wcells).flatten := by simp [wcells]
  have e2 : C.length + 1 = (C ++ [(x, s)]).length := by simp
  rw [e, e2] at h
  exact h
theorem put_end {W0 w : World} {H H2 H1 x gB : Nat} {a b v4 : Value} {R : Rf} {s : List Value} {C : List (Nat × List Value)} {r5 r6 : Rw} {L : List Rw} (h : Own W0 w (rB v4 C :: rW gB x s :: rBox H2 zRef :: rSec H1 s :: rBox H (refCells a b R) :: r5 :: r6 :: L)) :
    Own W0 (w.setCell ⟨H, 1, none⟩ v4) (rBox H (refCells a v4 R) :: rB v4 C :: rBox H2 zRef :: r5 :: L) := by
  have h2 : Own W0 (w.setCell ⟨H, 1, none⟩ v4) (rBox H (refCells a v4 R) :: rB v4 C :: rW gB x s :: rBox H2 zRef :: rSec H1 s :: r5 :: r6 :: L) := Own.set (h := h.fifth) 1 v4
  have hs : (rBox H (refCells a v4 R) :: rB v4 C :: rBox H2 zRef :: r5 :: L).Sublist (rBox H (refCells a v4 R) :: rB v4 C :: rW gB x s :: rBox H2 zRef :: rSec H1 s :: r5 :: r6 :: L) :=
    .cons_cons _ (.cons_cons _ (.cons _ (.cons_cons _ (.cons _ (.cons_cons _ (.cons _ (List.Sublist.refl _)))))))
  exact ⟨h2.below, fun p hp => h2.rows p (hs.subset hp), h2.apart.sublist hs⟩
theorem put_c {W0 w : World} {H : Nat} {a b : Value} {R : Rf} {M : List Rw} (h : Own W0 w M) (hm : rBox H (refCells a b R) ∈ M) : w.cell? ⟨H, 1, none⟩ = some b ∧ w.frozen? ⟨H, 1, none⟩ = false ∧ H < w.heap.size := by
  have h1 := h.one hm
  exact ⟨Own.cell (h := h1) 1 (by decide), Own.free (h := h1) 1, (h1.lt (List.mem_cons_self ..) (k := H) rfl).2⟩
theorem box6 {W0 w : World} {g : Nat} {v0 v1 v2 v3 v4 v5 : Value} {M : List Rw} (h : Own W0 w M) (hm : rBox g [v0, v1, v2, v3, v4, v5] ∈ M) :
    (w.cell? ⟨g, 0, none⟩ = some v0 ∧ w.cell? ⟨g, 1, none⟩ = some v1 ∧ w.cell? ⟨g, 2, none⟩ = some v2 ∧ w.cell? ⟨g, 3, none⟩ = some v3 ∧ w.cell? ⟨g, 4, none⟩ = some v4 ∧ w.cell? ⟨g, 5, none⟩ = some v5) ∧
    (w.frozen? ⟨g, 0, none⟩ = false ∧ w.frozen? ⟨g, 1, none⟩ = false ∧ w.frozen? ⟨g, 2, none⟩ = false ∧ w.frozen? ⟨g, 3, none⟩ = false ∧ w.frozen? ⟨g, 4, none⟩ = false ∧ w.frozen? ⟨g, 5, none⟩ = false) ∧ g < w.heap.size := by
  have h1 := h.one hm
  exact ⟨⟨Own.cell (h := h1) 0 (by decide), Own.cell (h := h1) 1 (by decide), Own.cell (h := h1) 2 (by decide), Own.cell (h := h1) 3 (by decide), Own.cell (h := h1) 4 (by decide), Own.cell (h := h1) 5 (by decide)⟩,
    ⟨Own.free (h := h1) 0, Own.free (h := h1) 1, Own.free (h := h1) 2, Own.free (h := h1) 3, Own.free (h := h1) 4, Own.free (h := h1) 5⟩, (h1.lt (List.mem_cons_self ..) (k := g) rfl).2⟩
theorem put_q {W0 w : World} {g : Nat} {s : List Value} {M : List Rw} (h : Own W0 w M) (hm : rSec g s ∈ M) (hs : s.length = 64) : okSec w (.pointer (some ⟨g, 0, none⟩)) ∧ secOf w (.pointer (some ⟨g, 0, none⟩)) = .agg s.toArray :=
  rSec_ok (h.one hm) hs

set_option maxHeartbeats 6400000 in
set_option maxRecDepth 100000 in
theorem ref_put_ok (W0 w : World) (a b : Value) (R : Rf) (L : List Rw) (x : Nat) (s : List Value) (hs : isSec s) (h : Own W0 w (rA a R.kept :: rB b R.cache :: L)) (hR : R.Ok) (hd : R.down = false) (hx : x < R.kept.length) (hm : R.cache.length < 1000000)
    (k0 : 0 ≤ R.keeps) (k1 : R.keeps < 18446744073709551616) (hs0 : 0 ≤ R.steps) (hs1 : R.steps < 9223372036854775807) (hf0 : -9223372036854775808 ≤ R.fate) (hf1 : R.fate ≤ 9223372036854775807) :
    Calls Try.prog 10 #[.agg (refCells a b R).toArray, .int .i64 (x : Int), .agg s.toArray] w (PutAt W0 R x s L) := by
  have hz := zero_ref
  have hir := info_r
  obtain ⟨i0, hi, hz0, hz1, hz2⟩ := info_parts info_b
  have hr0 : rfRefused R x = 0 := by unfold rfRefused; rw [hd, if_neg (by decide), if_neg (by omega)]
  have hE : rfPut R x s = ((rfStep { R with cache := R.cache ++ [(x, s)] }).1, if (rfStep { R with cache := R.cache ++ [(x, s)] }).2 then 0 else 3) := by
    unfold rfPut; rw [if_neg (by simpa using hr0), Int.toNat_natCast]
  have HE := Lib.hid hE
  obtain ⟨ga, ca, rfl, _⟩ := h.form (show 0 < R.kept.length from hR.pos)
  obtain ⟨gb, cb, rfl, _⟩ := cache_form h.swap
  obtain ⟨H, hH⟩ : ∃ H, w.heap.size = H := ⟨_, rfl⟩
  have hO := ((h.box (refCells (.slice (some ⟨ga, 0, none⟩) R.kept.length ca) (.slice gb R.cache.length cb) R) rfl H hH.symm).sec s hs.1 (H + 1) (by simp [hH])).box zRef rfl (H + 1 + 1) (by simp [hH])
  have hone := flat_w hR.cache
  have hlen : (R.cache.map wcells).flatten.length = R.cache.length * 65 := by rw [flat_length 65 _ (wcells_length' hR.cache), List.length_map]
  have Hlen := Lib.hid hlen
  have Hone := Lib.hid hone
  have HO := Lib.hid hO
  have Hs := Lib.hid hs
  have HD := Lib.hid hd
  have hx0 : (0 : Int) ≤ (x : Int) := by omega
  have hx1 : (x : Int) < (R.kept.length : Int) := by omega
  unfold refCells zRef at HO
  unfold refCells
  rw [hd] at HO ⊢
  clear hE hO hone hlen hs hd hr0
  go_enter Try.func10, Try.ntmps10
  go_wp2_with fail
  generalize hW : (((w.alloc (.cells #[.slice (some ⟨ga, 0, none⟩) R.kept.length ca, .slice gb R.cache.length cb, .bool false, .int .i64 R.fate, .int .u64 R.keeps, .int .i64 R.steps] 30)).alloc (.cells s.toArray 37)).alloc (.cells #[.slice none 0 0, .slice none 0 0, .bool false, .int .i64 0, .int .u64 0, .int .i64 0] 30)) = w2
  rw [hW] at HO
  clear hW h hH
  have hO : Own W0 w2 (rBox (H + 1 + 1) zRef :: rSec (H + 1) s :: rBox H (refCells (.slice (some ⟨ga, 0, none⟩) R.kept.length ca) (.slice gb R.cache.length cb) R) :: rA (.slice (some ⟨ga, 0, none⟩) R.kept.length ca) R.kept :: rB (.slice gb R.cache.length cb) R.cache :: L) := by
    unfold refCells zRef
    rw [HD.out]
    exact HO.out
  clear HO
  have hHlt : H < w2.heap.size := (hO.third.lt (List.mem_cons_self ..) (k := H) rfl).2
  have hH1lt : H + 1 < w2.heap.size := (hO.swap.lt (List.mem_cons_self ..) (k := H + 1) rfl).2
  have c1 : w2.cell? ⟨H, 1, none⟩ = some (.slice gb R.cache.length cb) := Own.cell (h := hO.third) 1 (by decide)
  have f1 : w2.frozen? ⟨H, 1, none⟩ = false := Own.free (h := hO.third) 1
  have hE1 := hO.made_at 62 65 #[] 0 w2.heap.size rfl rfl (Nat.zero_le _)
  have hEB := (hE1.wr x s Hs.out.1 (w2.heap.size + 1) (by simp)).swap
  have hBE := (hO.wr x s Hs.out.1 w2.heap.size rfl).made_at 62 65 #[] 0 (w2.heap.size + 1) (by simp) rfl (Nat.zero_le _)
  have sE1 := Own.src (h := hE1.one (r := rB (.slice gb R.cache.length cb) R.cache) (by simp)) Hone.out
  have sEB := Own.src (h := hEB.one (r := rB (.slice gb R.cache.length cb) R.cache) (by simp)) Hone.out
  have sBE := Own.src (h := hBE.one (r := rB (.slice gb R.cache.length cb) R.cache) (by simp)) Hone.out
  have q1 : okSec w2.drew (.pointer (some ⟨H + 1, 0, none⟩)) := (rSec_ok hO.swap.drew Hs.out.1).1
  have q3 : secOf w2.drew (.pointer (some ⟨H + 1, 0, none⟩)) = .agg s.toArray := (rSec_ok hO.swap.drew Hs.out.1).2
  have q2 : ∀ o : Obj, okSec (w2.alloc o).drew (.pointer (some ⟨H + 1, 0, none⟩)) := fun o => (rSec_ok (hO.swap.alloc o).drew Hs.out.1).1
  have q4 : ∀ o : Obj, secOf (w2.alloc o).drew (.pointer (some ⟨H + 1, 0, none⟩)) = .agg s.toArray := fun o => (rSec_ok (hO.swap.alloc o).drew Hs.out.1).2
  have q5 : okWr (.int .i64 (x : Int)) (.agg s.toArray) := ⟨_, s, rfl, rfl, Hs.out.1⟩
  have q6 : wrOf (.int .i64 (x : Int)) (.agg s.toArray) = .agg (Value.int .i64 (x : Int) :: s).toArray := rfl
  have q7 : okRow (.agg (Value.int .i64 (x : Int) :: s).toArray) := ⟨_, rfl, by simp [Hs.out.1]⟩
  have q8 : (Value.agg (Value.int .i64 (x : Int) :: s).toArray).cells = (Value.int .i64 (x : Int) :: s).toArray := rfl
  have hnl : (Value.int .i64 (x : Int) :: s).length = 1 * 65 := by simp [Hs.out.1]
  have h63 : R.cache.length + 1 ≤ maxLen := by unfold maxLen; omega
  have hby : (R.cache.length + 1) * 72 ≤ 140737488355328 := by omega
  have h63' : 0 + R.cache.length ≤ maxLen := by unfold maxLen; omega
  have hby' : (0 + R.cache.length) * 72 ≤ 140737488355328 := by omega
  have HE1 := Lib.hid hE1
  have HEB := Lib.hid hEB
  have HBE := Lib.hid hBE
  have SE1 := Lib.hid sE1
  have SEB := Lib.hid sEB
  have SBE := Lib.hid sBE
  have Hnl := Lib.hid hnl
  have H63 := Lib.hid h63
  have Hby := Lib.hid hby
  have H63' := Lib.hid h63'
  have Hby' := Lib.hid hby'
  clear hO hE1 hEB hBE sE1 sEB sBE hnl h63 hby h63' hby'
  go_cut [] (fun wc => ∃ v4, Own W0 wc (rBox H (refCells (.slice (some ⟨ga, 0, none⟩) R.kept.length ca) v4 R) :: rB v4 (R.cache ++ [(x, s)]) :: rBox (H + 1 + 1) zRef :: rA (.slice (some ⟨ga, 0, none⟩) R.kept.length ca) R.kept :: L))
  case first =>
    go_region_law (first
      | ((refine step_append_src (by rfl) (.tmp 23) (.tmp 25) 27 (by rfl) (.slice (some ⟨w2.heap.size, 0, none⟩) 0 0) 0 [] (.slice gb R.cache.length cb) R.cache.length (R.cache.map wcells).flatten (by rfl) (by rfl) HE1.out.drew i0 (.agg zW.toArray) 72 Try.underlying27 hi hz0 hz1 hz2 zW_size (by decide) SE1.out Hlen.out H63'.out Hby'.out ?_; intro v3 w3 hO3; have HO3a := Lib.hid (rB_norm hO3); clear hO3; obtain ⟨c3, f3, hH3⟩ := put_c HO3a.out (by simp : rBox H (refCells (.slice (some ⟨ga, 0, none⟩) R.kept.length ca) (.slice gb R.cache.length cb) R) ∈ _); obtain ⟨q9, q10⟩ := put_q HO3a.out (by simp : rSec (H + 1) s ∈ _) Hs.out.1))
      | ((refine step_append_src (by rfl) (.tmp 23) (.tmp 25) 27 (by rfl) (.slice (some ⟨w2.heap.size, 0, none⟩) 0 0) 0 [] (.slice gb R.cache.length cb) R.cache.length (R.cache.map wcells).flatten (by rfl) (by rfl) HEB.out.drew i0 (.agg zW.toArray) 72 Try.underlying27 hi hz0 hz1 hz2 zW_size (by decide) SEB.out Hlen.out H63'.out Hby'.out ?_; intro v3 w3 hO3; have HO3b := Lib.hid (rB_norm hO3); clear hO3; obtain ⟨c3, f3, hH3⟩ := put_c HO3b.out (by simp : rBox H (refCells (.slice (some ⟨ga, 0, none⟩) R.kept.length ca) (.slice gb R.cache.length cb) R) ∈ _)))
      | ((refine step_append_src (by rfl) (.tmp 23) (.tmp 25) 27 (by rfl) (.slice (some ⟨w2.heap.size + 1, 0, none⟩) 0 0) 0 [] (.slice gb R.cache.length cb) R.cache.length (R.cache.map wcells).flatten (by rfl) (by rfl) HBE.out.drew i0 (.agg zW.toArray) 72 Try.underlying27 hi hz0 hz1 hz2 zW_size (by decide) SBE.out Hlen.out H63'.out Hby'.out ?_; intro v3 w3 hO3; have HO3c := Lib.hid (rB_norm hO3); clear hO3; obtain ⟨c3, f3, hH3⟩ := put_c HO3c.out (by simp : rBox H (refCells (.slice (some ⟨ga, 0, none⟩) R.kept.length ca) (.slice gb R.cache.length cb) R) ∈ _)))
      | ((refine step_append_src (by rfl) (.tmp 26) (.tmp 30) 27 (by rfl) v3 R.cache.length (R.cache.map wcells).flatten (.slice (some ⟨w3.heap.size, 0, none⟩) 1 1) 1 (Value.int .i64 (x : Int) :: s) (by rfl) (by rfl) (HO3a.out.wr x s Hs.out.1 w3.heap.size rfl).swap i0 (.agg zW.toArray) 72 Try.underlying27 hi hz0 hz1 hz2 zW_size (by decide) (rW_src (HO3a.out.wr x s Hs.out.1 w3.heap.size rfl) Hs.out.2) Hnl.out H63.out Hby.out ?_; intro v4 w4 hO4; obtain ⟨g4, k4, rfl, _, _⟩ := hO4.form (by omega); have HO4 := Lib.hid (rB_snoc hO4); clear hO4; obtain ⟨c5, f5, hH5⟩ := put_c HO4.out (by simp : rBox H (refCells (.slice (some ⟨ga, 0, none⟩) R.kept.length ca) (.slice gb R.cache.length cb) R) ∈ _)))
      | ((refine step_append_src (by rfl) (.tmp 26) (.tmp 30) 27 (by rfl) v3 R.cache.length (R.cache.map wcells).flatten (.slice (some ⟨w2.heap.size + 1, 0, none⟩) 1 1) 1 (Value.int .i64 (x : Int) :: s) (by rfl) (by rfl) HO3b.out i0 (.agg zW.toArray) 72 Try.underlying27 hi hz0 hz1 hz2 zW_size (by decide) (rW_src HO3b.out.swap Hs.out.2) Hnl.out H63.out Hby.out ?_; intro v4 w4 hO4; obtain ⟨g4, k4, rfl, _, _⟩ := hO4.form (by omega); have HO4 := Lib.hid (rB_snoc hO4); clear hO4; obtain ⟨c5, f5, hH5⟩ := put_c HO4.out (by simp : rBox H (refCells (.slice (some ⟨ga, 0, none⟩) R.kept.length ca) (.slice gb R.cache.length cb) R) ∈ _)))
      | ((refine step_append_src (by rfl) (.tmp 26) (.tmp 30) 27 (by rfl) v3 R.cache.length (R.cache.map wcells).flatten (.slice (some ⟨w2.heap.size, 0, none⟩) 1 1) 1 (Value.int .i64 (x : Int) :: s) (by rfl) (by rfl) HO3c.out i0 (.agg zW.toArray) 72 Try.underlying27 hi hz0 hz1 hz2 zW_size (by decide) (rW_src HO3c.out.swap Hs.out.2) Hnl.out H63.out Hby.out ?_; intro v4 w4 hO4; obtain ⟨g4, k4, rfl, _, _⟩ := hO4.form (by omega); have HO4 := Lib.hid (rB_snoc hO4); clear hO4; obtain ⟨c5, f5, hH5⟩ := put_c HO4.out (by simp : rBox H (refCells (.slice (some ⟨ga, 0, none⟩) R.kept.length ca) (.slice gb R.cache.length cb) R) ∈ _))))
    all_goals (go_wp2_with fail; go_meet; exact ⟨_, put_end HO4.out⟩)
  case rest =>
    obtain ⟨v4, hC⟩ := hcut
    have hR' : ({ R with cache := R.cache ++ [(x, s)] } : Rf).Ok := ⟨hR.pos, hR.le, hR.kept, fun p hp => by
      rcases List.mem_append.1 hp with h1 | h1
      · exact hR.cache p h1
      · rw [List.mem_singleton.1 h1]; exact ⟨hx, Hs.out⟩, by show (R.cache ++ [(x, s)]).length ≤ _; rw [List.length_append]; simp; omega⟩
    have hok := rfStep_ok _ hR'
    obtain ⟨g4, k4, c4, rfl⟩ : ∃ g k c, v4 = .slice g k c := by obtain ⟨g, c, hv, _⟩ := cache_form hC.swap; exact ⟨g, _, c, hv⟩
    have hC2 := (hC.fourth.third).swap
    have hstep := ref_step W0 _ _ _ { R with cache := R.cache ++ [(x, s)] } _ hC2 hR' k0 k1 hs0 hs1 hf0 hf1
    unfold refCells zRef at hC
    rw [HD.out] at hC
    obtain ⟨⟨b0, b1, b2, b3, b4, b5⟩, _, hHlt'⟩ := box6 hC (by simp : rBox H [.slice (some ⟨ga, 0, none⟩) R.kept.length ca, .slice g4 k4 c4, .bool false, .int .i64 R.fate, .int .u64 R.keeps, .int .i64 R.steps] ∈ _)
    have hE := HE.out
    clear HE
    generalize hrS : rfStep { R with cache := R.cache ++ [(x, s)] } = r at hstep hok hE
    obtain ⟨R1, ok⟩ := r
    have HE := Lib.hid hE
    unfold refCells zRef at hstep
    dsimp only at hstep hok
    rw [HD.out] at hstep
    clear hrS hE
    have Hstep := Lib.hid hstep
    clear hC hC2 hstep
    go_wp2_with fail
    refine Hstep.out.mono ?_
    rintro e w5 ⟨a1, b1, rfl, hO5⟩
    clear Hstep
    obtain ⟨g1, c1, rfl, _⟩ := hO5.form (show 0 < R1.kept.length from hok.pos)
    obtain ⟨gb1, kb1, cb1, rfl⟩ : ∃ g k c, b1 = .slice g k c := by obtain ⟨g, c, hv, _⟩ := cache_form hO5.swap; exact ⟨g, _, c, hv⟩
    obtain ⟨G, hG⟩ : ∃ G, w5.heap.size = G := ⟨_, rfl⟩
    have hO6 := hO5.box (refCells (.slice (some ⟨g1, 0, none⟩) R1.kept.length c1) (.slice gb1 kb1 cb1) R1) rfl G hG.symm
    obtain ⟨⟨d0, d1, d2, d3, d4, d5⟩, ⟨f0, f1, f2, f3, f4, f5⟩, hH2⟩ := box6 hO6 (by simp : rBox (H + 1 + 1) [.slice none 0 0, .slice none 0 0, .bool false, .int .i64 0, .int .u64 0, .int .i64 0] ∈ _)
    have hlt2 := (hO5.one (by simp : rBox (H + 1 + 1) [.slice none 0 0, .slice none 0 0, .bool false, .int .i64 0, .int .u64 0, .int .i64 0] ∈ _)).lt (List.mem_cons_self ..) (k := H + 1 + 1) rfl
    have hne1 : ¬ G = H + 1 + 1 := by omega
    have hne2 : ¬ H + 1 + 1 = G := by omega
    have HS := Lib.hid (hO6.fifth.boxSet (refCells (.slice (some ⟨g1, 0, none⟩) R1.kept.length c1) (.slice gb1 kb1 cb1) R1) rfl)
    clear hO5 hO6 hok
    unfold refCells at d0 f0 d1 f1 d2 f2 d3 f3 d4 f4 d5 f5
    dsimp only at d0 f0 d1 f1 d2 f2 d3 f3 d4 f4 d5 f5 ⊢
    cases ok
    · go_wp2_with fail
      have cr := HS.out.boxRange rfl
      refine bodyPost_ret (v := .tuple #[.agg (refCells (.slice (some ⟨g1, 0, none⟩) R1.kept.length c1) (.slice gb1 kb1 cb1) R1).toArray, .int .i64 3]) (ret_cell_tmp Try.results10 rfl rfl cr Try.underlying30 rfl hir) rfl ?_
      exact ⟨(.slice (some ⟨g1, 0, none⟩) R1.kept.length c1), (.slice gb1 kb1 cb1), by rw [HE.out]; rfl, by rw [HE.out]; exact HS.out.tail.tail.third.tail⟩
    · go_wp2_with fail
      have cr := HS.out.boxRange rfl
      refine bodyPost_ret (v := .tuple #[.agg (refCells (.slice (some ⟨g1, 0, none⟩) R1.kept.length c1) (.slice gb1 kb1 cb1) R1).toArray, .int .i64 0]) (ret_cell_tmp Try.results10 rfl rfl cr Try.underlying30 rfl hir) rfl ?_
      exact ⟨(.slice (some ⟨g1, 0, none⟩) R1.kept.length c1), (.slice gb1 kb1 cb1), by rw [HE.out]; rfl, by rw [HE.out]; exact HS.out.tail.tail.third.tail⟩
end Go.Proofs.Ythmcdmnjjofehaa
