/- The document's step and Flush. -/
import Derived.Test.YthmcdmnjjofehaaDRef
namespace Go.Proofs.Ythmcdmnjjofehaa
open Go.RowKit
set_option linter.unusedVariables false
set_option linter.unusedSimpArgs false

def rfStep (R : Rf) : Rf × Bool :=
  if R.fate = 1 then (rfCrash { R with steps := R.steps + 1 } R.keeps, false)
  else if 1 < R.fate then ({ R with steps := R.steps + 1, fate := R.fate - 1 }, true)
  else ({ R with steps := R.steps + 1 }, true)
/-- A struct of the document's disk in a box. -/
def rBox (g : Nat) (xs : List Value) : Rw := ⟨30, 6, .slice (some ⟨g, 0, none⟩) 1 1, 1, xs⟩
def zRef : List Value := [.slice none 0 0, .slice none 0 0, .bool false, .int .i64 0, .int .u64 0, .int .i64 0]
theorem Own.box {W0 w : World} {L : List Rw} (h : Own W0 w L) (xs : List Value) (hx : xs.length = 6) (g : Nat) (hg : g = w.heap.size) : Own W0 (w.alloc (.cells xs.toArray 30)) (rBox g xs :: L) :=
  h.made_at 30 6 xs.toArray 1 g hg (by simp [hx]) (by unfold maxLen; decide)
theorem Own.boxSet {W0 w : World} {g : Nat} {xs : List Value} {L : List Rw} (h : Own W0 w (rBox g xs :: L)) (ys : List Value) (hx : xs.length = ys.length) : Own W0 (w.setCells g 0 ys) (rBox g ys :: L) := by
  have h1 := Own.setCells (h := h) ys 0
  rw [splice_all' xs ys hx] at h1
  exact h1
theorem Own.boxRange {W0 w : World} {g : Nat} {xs : List Value} {L : List Rw} (h : Own W0 w (rBox g xs :: L)) (hx : xs.length = 6) : w.rangeAt g 0 xs := by
  have h1 := Own.range (h := h) 0 6
  rw [List.drop_zero, ← hx, List.take_length] at h1
  exact h1
theorem Own.rows2 {W0 w : World} {r1 r2 p q : Rw} {L : List Rw} (h : Own W0 w (r1 :: r2 :: p :: q :: L)) : Own W0 w (p :: q :: r1 :: r2 :: L) := h.third.fourth.swap
theorem Own.unrows2 {W0 w : World} {r1 r2 p q : Rw} {L : List Rw} (h : Own W0 w (p :: q :: r1 :: r2 :: L)) : Own W0 w (r1 :: r2 :: p :: q :: L) := h.third.fourth.swap

set_option maxHeartbeats 3200000 in
set_option maxRecDepth 100000 in
theorem ref_step (W0 w : World) (a b : Value) (R : Rf) (L : List Rw) (h : Own W0 w (rA a R.kept :: rB b R.cache :: L)) (hR : R.Ok) (k0 : 0 ≤ R.keeps) (k1 : R.keeps < 18446744073709551616) (hs0 : 0 ≤ R.steps) (hs1 : R.steps < 9223372036854775807) (hf0 : -9223372036854775808 ≤ R.fate) (hf1 : R.fate ≤ 9223372036854775807) :
    Calls Try.prog 23 #[.agg (refCells a b R).toArray] w fun e w' => ∃ a' b', e = .returned (.tuple #[.agg (refCells a' b' (rfStep R).1).toArray, .bool (rfStep R).2]) ∧ Own W0 w' (rA a' (rfStep R).1.kept :: rB b' (rfStep R).1.cache :: L) := by
  have hz := zero_ref
  have hir := info_r
  obtain ⟨ga, ca, rfl, _⟩ := h.form (show 0 < R.kept.length from hR.pos)
  obtain ⟨gb, cb, rfl, _⟩ := cache_form h.swap
  obtain ⟨H, hH⟩ : ∃ H, w.heap.size = H := ⟨_, rfl⟩
  have hpos : 0 < (rfCrash { R with steps := R.steps + 1 } R.keeps).kept.length := by show 0 < (rfKept _ _ _).length; rw [rfKept_length]; exact hR.pos
  by_cases hf : R.fate = 1
  · have hE : rfStep R = (rfCrash { R with steps := R.steps + 1 } R.keeps, false) := by unfold rfStep; rw [if_pos hf]
    have e1 : (R.fate == 1) = true := by rw [hf]; rfl
    have hO := (h.box (refCells (.slice (some ⟨ga, 0, none⟩) R.kept.length ca) (.slice gb R.cache.length cb) { R with steps := R.steps + 1 }) rfl H hH.symm).box zRef rfl (H + 1) (by simp [hH])
    have HE := Lib.hid hE
    have HO := Lib.hid hO.rows2
    have hR1 : ({ R with steps := R.steps + 1 } : Rf).Ok := ⟨hR.pos, hR.le, hR.kept, hR.cache, hR.many⟩
    unfold refCells
    clear hE hf hO
    go_enter Try.func23, Try.ntmps23
    go_wp2_with fail
    refine (ref_crash W0 _ (.slice (some ⟨ga, 0, none⟩) R.kept.length ca) (.slice gb R.cache.length cb) { R with steps := R.steps + 1 } _ R.keeps HO.out hR1 k0 k1).mono ?_
    rintro e w3 ⟨a', rfl, hO3⟩
    obtain ⟨ga', ca', rfl, _⟩ := hO3.form hpos
    have hO4 := hO3.swap.tail.swap.tail.swap
    have d0 : World.cell? w3 ⟨H + 1, 0, none⟩ = some (.slice none 0 0) := Own.cell (h := hO4) 0 (by decide)
    have f0 : World.frozen? w3 ⟨H + 1, 0, none⟩ = false := Own.free (h := hO4) 0
    have d1 : World.cell? w3 ⟨H + 1, 1, none⟩ = some (.slice none 0 0) := Own.cell (h := hO4) 1 (by decide)
    have f1 : World.frozen? w3 ⟨H + 1, 1, none⟩ = false := Own.free (h := hO4) 1
    have d2 : World.cell? w3 ⟨H + 1, 2, none⟩ = some (.bool false) := Own.cell (h := hO4) 2 (by decide)
    have f2 : World.frozen? w3 ⟨H + 1, 2, none⟩ = false := Own.free (h := hO4) 2
    have d3 : World.cell? w3 ⟨H + 1, 3, none⟩ = some (.int .i64 0) := Own.cell (h := hO4) 3 (by decide)
    have f3 : World.frozen? w3 ⟨H + 1, 3, none⟩ = false := Own.free (h := hO4) 3
    have d4 : World.cell? w3 ⟨H + 1, 4, none⟩ = some (.int .u64 0) := Own.cell (h := hO4) 4 (by decide)
    have f4 : World.frozen? w3 ⟨H + 1, 4, none⟩ = false := Own.free (h := hO4) 4
    have d5 : World.cell? w3 ⟨H + 1, 5, none⟩ = some (.int .i64 0) := Own.cell (h := hO4) 5 (by decide)
    have f5 : World.frozen? w3 ⟨H + 1, 5, none⟩ = false := Own.free (h := hO4) 5
    have HS := Lib.hid (hO4.boxSet (refCells (.slice (some ⟨ga', 0, none⟩) (rfCrash { R with steps := R.steps + 1 } R.keeps).kept.length ca') (.slice none 0 0) (rfCrash { R with steps := R.steps + 1 } R.keeps)) rfl)
    clear hO3 hO4 HO
    unfold refCells
    go_wp2_with fail
    have cr := HS.out.boxRange rfl
    refine bodyPost_ret (v := .tuple #[.agg (refCells (.slice (some ⟨ga', 0, none⟩) (rfCrash { R with steps := R.steps + 1 } R.keeps).kept.length ca') (.slice none 0 0) (rfCrash { R with steps := R.steps + 1 } R.keeps)).toArray, .bool false]) (ret_cell_tmp Try.results23 rfl rfl cr Try.underlying30 rfl hir) rfl ?_
    exact ⟨(.slice (some ⟨ga', 0, none⟩) (rfCrash { R with steps := R.steps + 1 } R.keeps).kept.length ca'), .slice none 0 0, by rw [HE.out]; rfl, by rw [HE.out]; exact (HS.out.tail.swap.tail.nil _ _).swap⟩
  · have e1 : (R.fate == 1) = false := by simpa using hf
    by_cases hg : 1 < R.fate
    · have hE : rfStep R = ({ R with steps := R.steps + 1, fate := R.fate - 1 }, true) := by unfold rfStep; rw [if_neg hf, if_pos hg]
      have HE := Lib.hid hE
      have HS := Lib.hid ((h.box (refCells (.slice (some ⟨ga, 0, none⟩) R.kept.length ca) (.slice gb R.cache.length cb) { R with steps := R.steps + 1, fate := R.fate - 1 }) rfl H hH.symm).box (refCells (.slice (some ⟨ga, 0, none⟩) R.kept.length ca) (.slice gb R.cache.length cb) { R with steps := R.steps + 1, fate := R.fate - 1 }) rfl (H + 1) (by simp [hH]))
      unfold refCells
      clear hE hf
      go_enter Try.func23, Try.ntmps23
      go_wp2_with fail
      have cr := HS.out.boxRange rfl
      refine bodyPost_ret (v := .tuple #[.agg (refCells (.slice (some ⟨ga, 0, none⟩) R.kept.length ca) (.slice gb R.cache.length cb) { R with steps := R.steps + 1, fate := R.fate - 1 }).toArray, .bool true]) (ret_cell_tmp Try.results23 rfl rfl cr Try.underlying30 rfl hir) rfl ?_
      exact ⟨(.slice (some ⟨ga, 0, none⟩) R.kept.length ca), (.slice gb R.cache.length cb), by rw [HE.out]; rfl, by rw [HE.out]; exact HS.out.tail.tail⟩
    · have hE : rfStep R = ({ R with steps := R.steps + 1 }, true) := by unfold rfStep; rw [if_neg hf, if_neg hg]
      have HE := Lib.hid hE
      have HS := Lib.hid ((h.box (refCells (.slice (some ⟨ga, 0, none⟩) R.kept.length ca) (.slice gb R.cache.length cb) { R with steps := R.steps + 1 }) rfl H hH.symm).box (refCells (.slice (some ⟨ga, 0, none⟩) R.kept.length ca) (.slice gb R.cache.length cb) { R with steps := R.steps + 1 }) rfl (H + 1) (by simp [hH]))
      unfold refCells
      clear hE hf
      go_enter Try.func23, Try.ntmps23
      go_wp2_with fail
      have cr := HS.out.boxRange rfl
      refine bodyPost_ret (v := .tuple #[.agg (refCells (.slice (some ⟨ga, 0, none⟩) R.kept.length ca) (.slice gb R.cache.length cb) { R with steps := R.steps + 1 }).toArray, .bool true]) (ret_cell_tmp Try.results23 rfl rfl cr Try.underlying30 rfl hir) rfl ?_
      exact ⟨(.slice (some ⟨ga, 0, none⟩) R.kept.length ca), (.slice gb R.cache.length cb), by rw [HE.out]; rfl, by rw [HE.out]; exact HS.out.tail.tail⟩
def rfFlush (R : Rf) : Rf × Int :=
  if R.down then (R, 3)
  else
    let r := rfStep R
    if r.2 then ({ r.1 with kept := rfKept r.1 18446744073709551615 r.1.cache.length, cache := [] }, 0) else (r.1, 3)
theorem rfCrash_ok (R : Rf) (h : R.Ok) (keeps : Int) : (rfCrash R keeps).Ok := by
  refine ⟨?_, ?_, rfKept_sec R h keeps _, (fun p hp => by cases hp), Nat.zero_le _⟩
  · show 0 < (rfKept _ _ _).length; rw [rfKept_length]; exact h.pos
  · show (rfKept _ _ _).length ≤ _; rw [rfKept_length]; exact h.le
theorem rfStep_ok (R : Rf) (h : R.Ok) : (rfStep R).1.Ok := by
  unfold rfStep
  split
  · exact rfCrash_ok { R with steps := R.steps + 1 } ⟨h.pos, h.le, h.kept, h.cache, h.many⟩ _
  · split
    · exact ⟨h.pos, h.le, h.kept, h.cache, h.many⟩
    · exact ⟨h.pos, h.le, h.kept, h.cache, h.many⟩

set_option maxHeartbeats 3200000 in
set_option maxRecDepth 100000 in
theorem ref_flush (W0 w : World) (a b : Value) (R : Rf) (L : List Rw) (h : Own W0 w (rA a R.kept :: rB b R.cache :: L)) (hR : R.Ok) (k0 : 0 ≤ R.keeps) (k1 : R.keeps < 18446744073709551616) (hs0 : 0 ≤ R.steps) (hs1 : R.steps < 9223372036854775807) (hf0 : -9223372036854775808 ≤ R.fate) (hf1 : R.fate ≤ 9223372036854775807) :
    Calls Try.prog 12 #[.agg (refCells a b R).toArray] w fun e w' => ∃ a' b', e = .returned (.tuple #[.agg (refCells a' b' (rfFlush R).1).toArray, .int .i64 (rfFlush R).2]) ∧ Own W0 w' (rA a' (rfFlush R).1.kept :: rB b' (rfFlush R).1.cache :: L) := by
  have hz := zero_ref
  have hir := info_r
  obtain ⟨ga, ca, rfl, _⟩ := h.form (show 0 < R.kept.length from hR.pos)
  obtain ⟨gb, cb, rfl, _⟩ := cache_form h.swap
  obtain ⟨H, hH⟩ : ∃ H, w.heap.size = H := ⟨_, rfl⟩
  cases hd : R.down
  · have hE0 : rfFlush R = if (rfStep R).2 then ({ (rfStep R).1 with kept := rfKept (rfStep R).1 18446744073709551615 (rfStep R).1.cache.length, cache := [] }, 0) else ((rfStep R).1, 3) := by unfold rfFlush; rw [hd]; rfl
    have hO := (h.box (refCells (.slice (some ⟨ga, 0, none⟩) R.kept.length ca) (.slice gb R.cache.length cb) R) rfl H hH.symm).box zRef rfl (H + 1) (by simp [hH])
    have hlt : H + 1 < w.heap.size + 2 := by omega
    have HO := Lib.hid hO.rows2
    have hok := rfStep_ok R hR
    have HR := Lib.hid hd
    have hstep := ref_step W0 _ _ _ R _ HO.out hR k0 k1 hs0 hs1 hf0 hf1
    unfold refCells zRef at hstep
    rw [hd] at hstep
    unfold refCells
    rw [hd]
    have Hstep := Lib.hid hstep
    clear hO hstep
    go_enter Try.func12, Try.ntmps12
    go_wp2_with fail
    refine Hstep.out.mono ?_
    rintro e w3 ⟨a1, b1, rfl, hO3⟩
    clear Hstep HO
    generalize hr : rfStep R = r at *
    obtain ⟨R1, ok⟩ := r
    obtain ⟨g1, c1, rfl, _⟩ := hO3.form (show 0 < R1.kept.length from hok.pos)
    obtain ⟨gb1, cb1, rfl, _⟩ := cache_form hO3.swap
    simp only at hE0 hO3 hok
    obtain ⟨G, hG⟩ : ∃ G, w3.heap.size = G := ⟨_, rfl⟩
    have hHG := hO3.third.lt (List.mem_cons_self ..) (k := H + 1) rfl
    have hne1 : ¬ G = H + 1 := by omega
    have hne2 : ¬ H + 1 = G := by omega
    have hO5 := hO3.box (refCells (.slice (some ⟨g1, 0, none⟩) R1.kept.length c1) (.slice gb1 R1.cache.length cb1) R1) rfl G hG.symm
    have HE := Lib.hid hE0
    clear hE0
    cases ok
    · have hO6 := hO5.fourth
      have d0 : World.cell? (w3.alloc (.cells (refCells (.slice (some ⟨g1, 0, none⟩) R1.kept.length c1) (.slice gb1 R1.cache.length cb1) R1).toArray 30)) ⟨H + 1, 0, none⟩ = some (.slice none 0 0) := Own.cell (h := hO6) 0 (by decide)
      have f0 : World.frozen? (w3.alloc (.cells (refCells (.slice (some ⟨g1, 0, none⟩) R1.kept.length c1) (.slice gb1 R1.cache.length cb1) R1).toArray 30)) ⟨H + 1, 0, none⟩ = false := Own.free (h := hO6) 0
      have d1 : World.cell? (w3.alloc (.cells (refCells (.slice (some ⟨g1, 0, none⟩) R1.kept.length c1) (.slice gb1 R1.cache.length cb1) R1).toArray 30)) ⟨H + 1, 1, none⟩ = some (.slice none 0 0) := Own.cell (h := hO6) 1 (by decide)
      have f1 : World.frozen? (w3.alloc (.cells (refCells (.slice (some ⟨g1, 0, none⟩) R1.kept.length c1) (.slice gb1 R1.cache.length cb1) R1).toArray 30)) ⟨H + 1, 1, none⟩ = false := Own.free (h := hO6) 1
      have d2 : World.cell? (w3.alloc (.cells (refCells (.slice (some ⟨g1, 0, none⟩) R1.kept.length c1) (.slice gb1 R1.cache.length cb1) R1).toArray 30)) ⟨H + 1, 2, none⟩ = some (.bool false) := Own.cell (h := hO6) 2 (by decide)
      have f2 : World.frozen? (w3.alloc (.cells (refCells (.slice (some ⟨g1, 0, none⟩) R1.kept.length c1) (.slice gb1 R1.cache.length cb1) R1).toArray 30)) ⟨H + 1, 2, none⟩ = false := Own.free (h := hO6) 2
      have d3 : World.cell? (w3.alloc (.cells (refCells (.slice (some ⟨g1, 0, none⟩) R1.kept.length c1) (.slice gb1 R1.cache.length cb1) R1).toArray 30)) ⟨H + 1, 3, none⟩ = some (.int .i64 0) := Own.cell (h := hO6) 3 (by decide)
      have f3 : World.frozen? (w3.alloc (.cells (refCells (.slice (some ⟨g1, 0, none⟩) R1.kept.length c1) (.slice gb1 R1.cache.length cb1) R1).toArray 30)) ⟨H + 1, 3, none⟩ = false := Own.free (h := hO6) 3
      have d4 : World.cell? (w3.alloc (.cells (refCells (.slice (some ⟨g1, 0, none⟩) R1.kept.length c1) (.slice gb1 R1.cache.length cb1) R1).toArray 30)) ⟨H + 1, 4, none⟩ = some (.int .u64 0) := Own.cell (h := hO6) 4 (by decide)
      have f4 : World.frozen? (w3.alloc (.cells (refCells (.slice (some ⟨g1, 0, none⟩) R1.kept.length c1) (.slice gb1 R1.cache.length cb1) R1).toArray 30)) ⟨H + 1, 4, none⟩ = false := Own.free (h := hO6) 4
      have d5 : World.cell? (w3.alloc (.cells (refCells (.slice (some ⟨g1, 0, none⟩) R1.kept.length c1) (.slice gb1 R1.cache.length cb1) R1).toArray 30)) ⟨H + 1, 5, none⟩ = some (.int .i64 0) := Own.cell (h := hO6) 5 (by decide)
      have f5 : World.frozen? (w3.alloc (.cells (refCells (.slice (some ⟨g1, 0, none⟩) R1.kept.length c1) (.slice gb1 R1.cache.length cb1) R1).toArray 30)) ⟨H + 1, 5, none⟩ = false := Own.free (h := hO6) 5
      have HS := Lib.hid (hO6.boxSet (refCells (.slice (some ⟨g1, 0, none⟩) R1.kept.length c1) (.slice gb1 R1.cache.length cb1) R1) rfl)
      clear hO3 hO5 hO6
      unfold refCells at d0 f0 d1 f1 d2 f2 d3 f3 d4 f4 d5 f5
      dsimp only at d0 f0 d1 f1 d2 f2 d3 f3 d4 f4 d5 f5 ⊢
      go_wp2_with fail
      have cr := HS.out.boxRange rfl
      refine bodyPost_ret (v := .tuple #[.agg (refCells (.slice (some ⟨g1, 0, none⟩) R1.kept.length c1) (.slice gb1 R1.cache.length cb1) R1).toArray, .int .i64 3]) (ret_cell_tmp Try.results12 rfl rfl cr Try.underlying30 rfl hir) rfl ?_
      exact ⟨(.slice (some ⟨g1, 0, none⟩) R1.kept.length c1), (.slice gb1 R1.cache.length cb1), by rw [HE.out]; rfl, by rw [HE.out]; exact HS.out.tail.tail.unthird.unthird.tail⟩
    · have hcr := ref_crash W0 _ _ _ R1 _ 18446744073709551615 hO5.third.third hok (by decide) (by decide)
      unfold refCells at hcr
      have Hcr := Lib.hid hcr
      clear hO5 hcr
      dsimp only
      go_wp2_with fail
      refine Hcr.out.mono ?_
      rintro e w4 ⟨a2, rfl, hO6⟩
      clear Hcr
      have hlen2 : (rfCrash R1 18446744073709551615).kept.length = R1.kept.length := rfKept_length _ _ _
      obtain ⟨g2, c2, rfl, _⟩ := hO6.form (show 0 < (rfCrash R1 18446744073709551615).kept.length by rw [hlen2]; exact hok.pos)
      obtain ⟨G2, hG2⟩ : ∃ G2, w4.heap.size = G2 := ⟨_, rfl⟩
      have hO7 := hO6.box (refCells (.slice (some ⟨g2, 0, none⟩) (rfCrash R1 18446744073709551615).kept.length c2) (.slice none 0 0) (rfCrash R1 18446744073709551615)) rfl G2 hG2.symm
      have hG1 := hO7.one (r := rBox G [(.slice (some ⟨g1, 0, none⟩) R1.kept.length c1), (.slice gb1 R1.cache.length cb1), .bool R1.down, .int .i64 R1.fate, .int .u64 R1.keeps, .int .i64 R1.steps]) (by simp [refCells])
      have hH1 := hO7.one (r := rBox (H + 1) [.slice none 0 0, .slice none 0 0, .bool false, .int .i64 0, .int .u64 0, .int .i64 0]) (by simp [zRef])
      have d0 : World.cell? (w4.alloc (.cells (refCells (.slice (some ⟨g2, 0, none⟩) (rfCrash R1 18446744073709551615).kept.length c2) (.slice none 0 0) (rfCrash R1 18446744073709551615)).toArray 30)) ⟨H + 1, 0, none⟩ = some (.slice none 0 0) := Own.cell (h := hH1) 0 (by decide)
      have f0 : World.frozen? (w4.alloc (.cells (refCells (.slice (some ⟨g2, 0, none⟩) (rfCrash R1 18446744073709551615).kept.length c2) (.slice none 0 0) (rfCrash R1 18446744073709551615)).toArray 30)) ⟨H + 1, 0, none⟩ = false := Own.free (h := hH1) 0
      have d1 : World.cell? (w4.alloc (.cells (refCells (.slice (some ⟨g2, 0, none⟩) (rfCrash R1 18446744073709551615).kept.length c2) (.slice none 0 0) (rfCrash R1 18446744073709551615)).toArray 30)) ⟨H + 1, 1, none⟩ = some (.slice none 0 0) := Own.cell (h := hH1) 1 (by decide)
      have f1 : World.frozen? (w4.alloc (.cells (refCells (.slice (some ⟨g2, 0, none⟩) (rfCrash R1 18446744073709551615).kept.length c2) (.slice none 0 0) (rfCrash R1 18446744073709551615)).toArray 30)) ⟨H + 1, 1, none⟩ = false := Own.free (h := hH1) 1
      have d2 : World.cell? (w4.alloc (.cells (refCells (.slice (some ⟨g2, 0, none⟩) (rfCrash R1 18446744073709551615).kept.length c2) (.slice none 0 0) (rfCrash R1 18446744073709551615)).toArray 30)) ⟨H + 1, 2, none⟩ = some (.bool false) := Own.cell (h := hH1) 2 (by decide)
      have f2 : World.frozen? (w4.alloc (.cells (refCells (.slice (some ⟨g2, 0, none⟩) (rfCrash R1 18446744073709551615).kept.length c2) (.slice none 0 0) (rfCrash R1 18446744073709551615)).toArray 30)) ⟨H + 1, 2, none⟩ = false := Own.free (h := hH1) 2
      have d3 : World.cell? (w4.alloc (.cells (refCells (.slice (some ⟨g2, 0, none⟩) (rfCrash R1 18446744073709551615).kept.length c2) (.slice none 0 0) (rfCrash R1 18446744073709551615)).toArray 30)) ⟨H + 1, 3, none⟩ = some (.int .i64 0) := Own.cell (h := hH1) 3 (by decide)
      have f3 : World.frozen? (w4.alloc (.cells (refCells (.slice (some ⟨g2, 0, none⟩) (rfCrash R1 18446744073709551615).kept.length c2) (.slice none 0 0) (rfCrash R1 18446744073709551615)).toArray 30)) ⟨H + 1, 3, none⟩ = false := Own.free (h := hH1) 3
      have d4 : World.cell? (w4.alloc (.cells (refCells (.slice (some ⟨g2, 0, none⟩) (rfCrash R1 18446744073709551615).kept.length c2) (.slice none 0 0) (rfCrash R1 18446744073709551615)).toArray 30)) ⟨H + 1, 4, none⟩ = some (.int .u64 0) := Own.cell (h := hH1) 4 (by decide)
      have f4 : World.frozen? (w4.alloc (.cells (refCells (.slice (some ⟨g2, 0, none⟩) (rfCrash R1 18446744073709551615).kept.length c2) (.slice none 0 0) (rfCrash R1 18446744073709551615)).toArray 30)) ⟨H + 1, 4, none⟩ = false := Own.free (h := hH1) 4
      have d5 : World.cell? (w4.alloc (.cells (refCells (.slice (some ⟨g2, 0, none⟩) (rfCrash R1 18446744073709551615).kept.length c2) (.slice none 0 0) (rfCrash R1 18446744073709551615)).toArray 30)) ⟨H + 1, 5, none⟩ = some (.int .i64 0) := Own.cell (h := hH1) 5 (by decide)
      have f5 : World.frozen? (w4.alloc (.cells (refCells (.slice (some ⟨g2, 0, none⟩) (rfCrash R1 18446744073709551615).kept.length c2) (.slice none 0 0) (rfCrash R1 18446744073709551615)).toArray 30)) ⟨H + 1, 5, none⟩ = false := Own.free (h := hH1) 5
      have p0 : World.cell? (w4.alloc (.cells (refCells (.slice (some ⟨g2, 0, none⟩) (rfCrash R1 18446744073709551615).kept.length c2) (.slice none 0 0) (rfCrash R1 18446744073709551615)).toArray 30)) ⟨G, 0, none⟩ = some ((.slice (some ⟨g1, 0, none⟩) R1.kept.length c1)) := Own.cell (h := hG1) 0 (by decide)
      have q0 : World.frozen? (w4.alloc (.cells (refCells (.slice (some ⟨g2, 0, none⟩) (rfCrash R1 18446744073709551615).kept.length c2) (.slice none 0 0) (rfCrash R1 18446744073709551615)).toArray 30)) ⟨G, 0, none⟩ = false := Own.free (h := hG1) 0
      have p1 : World.cell? (w4.alloc (.cells (refCells (.slice (some ⟨g2, 0, none⟩) (rfCrash R1 18446744073709551615).kept.length c2) (.slice none 0 0) (rfCrash R1 18446744073709551615)).toArray 30)) ⟨G, 1, none⟩ = some ((.slice gb1 R1.cache.length cb1)) := Own.cell (h := hG1) 1 (by decide)
      have q1 : World.frozen? (w4.alloc (.cells (refCells (.slice (some ⟨g2, 0, none⟩) (rfCrash R1 18446744073709551615).kept.length c2) (.slice none 0 0) (rfCrash R1 18446744073709551615)).toArray 30)) ⟨G, 1, none⟩ = false := Own.free (h := hG1) 1
      have p2 : World.cell? (w4.alloc (.cells (refCells (.slice (some ⟨g2, 0, none⟩) (rfCrash R1 18446744073709551615).kept.length c2) (.slice none 0 0) (rfCrash R1 18446744073709551615)).toArray 30)) ⟨G, 2, none⟩ = some (.bool R1.down) := Own.cell (h := hG1) 2 (by decide)
      have q2 : World.frozen? (w4.alloc (.cells (refCells (.slice (some ⟨g2, 0, none⟩) (rfCrash R1 18446744073709551615).kept.length c2) (.slice none 0 0) (rfCrash R1 18446744073709551615)).toArray 30)) ⟨G, 2, none⟩ = false := Own.free (h := hG1) 2
      have p3 : World.cell? (w4.alloc (.cells (refCells (.slice (some ⟨g2, 0, none⟩) (rfCrash R1 18446744073709551615).kept.length c2) (.slice none 0 0) (rfCrash R1 18446744073709551615)).toArray 30)) ⟨G, 3, none⟩ = some (.int .i64 R1.fate) := Own.cell (h := hG1) 3 (by decide)
      have q3 : World.frozen? (w4.alloc (.cells (refCells (.slice (some ⟨g2, 0, none⟩) (rfCrash R1 18446744073709551615).kept.length c2) (.slice none 0 0) (rfCrash R1 18446744073709551615)).toArray 30)) ⟨G, 3, none⟩ = false := Own.free (h := hG1) 3
      have p4 : World.cell? (w4.alloc (.cells (refCells (.slice (some ⟨g2, 0, none⟩) (rfCrash R1 18446744073709551615).kept.length c2) (.slice none 0 0) (rfCrash R1 18446744073709551615)).toArray 30)) ⟨G, 4, none⟩ = some (.int .u64 R1.keeps) := Own.cell (h := hG1) 4 (by decide)
      have q4 : World.frozen? (w4.alloc (.cells (refCells (.slice (some ⟨g2, 0, none⟩) (rfCrash R1 18446744073709551615).kept.length c2) (.slice none 0 0) (rfCrash R1 18446744073709551615)).toArray 30)) ⟨G, 4, none⟩ = false := Own.free (h := hG1) 4
      have p5 : World.cell? (w4.alloc (.cells (refCells (.slice (some ⟨g2, 0, none⟩) (rfCrash R1 18446744073709551615).kept.length c2) (.slice none 0 0) (rfCrash R1 18446744073709551615)).toArray 30)) ⟨G, 5, none⟩ = some (.int .i64 R1.steps) := Own.cell (h := hG1) 5 (by decide)
      have q5 : World.frozen? (w4.alloc (.cells (refCells (.slice (some ⟨g2, 0, none⟩) (rfCrash R1 18446744073709551615).kept.length c2) (.slice none 0 0) (rfCrash R1 18446744073709551615)).toArray 30)) ⟨G, 5, none⟩ = false := Own.free (h := hG1) 5
      have hS := (((Own.set (h := Own.set (h := hO7.fifth) 0 (.slice (some ⟨g2, 0, none⟩) (rfCrash R1 18446744073709551615).kept.length c2)) 1 (.slice none 0 0)).tail.tail.swap.tail.swap.tail.swap).boxSet (refCells (.slice (some ⟨g2, 0, none⟩) (rfCrash R1 18446744073709551615).kept.length c2) (.slice none 0 0) { R1 with kept := rfKept R1 18446744073709551615 R1.cache.length, cache := [] }) rfl)
      have HS := Lib.hid hS
      have hlG := hG1.lt (List.mem_cons_self ..) (k := G) rfl
      have hlH := hH1.lt (List.mem_cons_self ..) (k := H + 1) rfl
      have HL2 := Lib.hid hlen2
      clear hO3 hO6 hO7 hG1 hH1 hS hlen2
      unfold refCells at d0 f0 d1 f1 d2 f2 d3 f3 d4 f4 d5 f5 p0 q0 p1 q1 p2 q2 p3 q3 p4 q4 p5 q5
      dsimp only at d0 f0 d1 f1 d2 f2 d3 f3 d4 f4 d5 f5 p0 q0 p1 q1 p2 q2 p3 q3 p4 q4 p5 q5 ⊢
      go_wp2_with fail
      have cr := HS.out.boxRange rfl
      refine bodyPost_ret (v := .tuple #[.agg (refCells (.slice (some ⟨g2, 0, none⟩) (rfCrash R1 18446744073709551615).kept.length c2) (.slice none 0 0) { R1 with kept := rfKept R1 18446744073709551615 R1.cache.length, cache := [] }).toArray, .int .i64 0]) (ret_cell_tmp Try.results12 rfl rfl cr Try.underlying30 rfl hir) rfl ?_
      exact ⟨(.slice (some ⟨g2, 0, none⟩) (rfCrash R1 18446744073709551615).kept.length c2), .slice none 0 0, by rw [HE.out]; rfl, by rw [HE.out]; exact (HS.out.tail.swap.tail.nil _ _).swap⟩
  · have hE : rfFlush R = (R, 3) := by unfold rfFlush; rw [hd]; rfl
    have HE := Lib.hid hE
    have HS := Lib.hid ((h.box (refCells (.slice (some ⟨ga, 0, none⟩) R.kept.length ca) (.slice gb R.cache.length cb) R) rfl H hH.symm).box (refCells (.slice (some ⟨ga, 0, none⟩) R.kept.length ca) (.slice gb R.cache.length cb) R) rfl (H + 1) (by simp [hH]))
    unfold refCells at HS
    rw [hd] at HS
    unfold refCells
    rw [hd]
    clear hE
    go_enter Try.func12, Try.ntmps12
    go_wp2_with fail
    have cr := HS.out.boxRange rfl
    refine bodyPost_ret (v := .tuple #[.agg (refCells (.slice (some ⟨ga, 0, none⟩) R.kept.length ca) (.slice gb R.cache.length cb) R).toArray, .int .i64 3]) (ret_cell_tmp Try.results12 rfl rfl (by unfold refCells; rw [hd]; exact cr) Try.underlying30 rfl hir) rfl ?_
    exact ⟨_, _, by rw [HE.out]; rfl, by rw [HE.out]; exact HS.out.tail.tail⟩
end Go.Proofs.Ythmcdmnjjofehaa
