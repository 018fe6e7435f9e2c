/- Read: the sum fits. -/
import Derived.Test.YtihnjhigemhknaaGreatDoorAr17
namespace Go.Proofs.YtihnjhigemhknaaGreatDoor
open Go.RowKit
set_option linter.unusedVariables false
set_option linter.unusedSimpArgs false
set_option maxRecDepth 100000

set_option maxHeartbeats 4000000 in
theorem read_right (g o vc : Nat) (zs : List Int) (w : World) (h : By w (.slice (some ⟨g, o, none⟩) zs.length vc) zs) (m : Nat) (hz : zs.length = m + 4) (hne : le4 (crcI (zs.take m)) = zs.drop m) (hl : m ≤ 100000000) (hm : Mx w) (hfit : ∀ D, Says (zs.take m) D → Fits D) (hok0 : ∀ D, Says (zs.take m) D → pkOk D = true) :
    Calls Tryz.prog 12 #[.slice (some ⟨g, o, none⟩) zs.length vc] w fun e w' => ∃ D P, Says (zs.take m) D ∧ PkAt w' D P ∧ Below w.heap.size w w' ∧
      ((pkOk D = true ∧ packP D = zs.take m ∧ e = .returned (.tuple #[(.agg #[.string D.name, .string D.ver, .slice P.an D.needs.length P.cn, .slice P.ac D.confs.length P.cc, .slice P.af D.files.length P.cf, .slice P.au D.units.length P.cu]), .int .i64 0])) ∨
       (¬(pkOk D = true ∧ packP D = zs.take m) ∧ e = .returned (.tuple #[(.agg #[.string ⟨#[]⟩, .string ⟨#[]⟩, .slice none 0 0, .slice none 0 0, .slice none 0 0, .slice none 0 0]), .int .i64 4]))) := by
  have hO0 := Lib.hid ((Own.start w).box6 (.string ⟨#[]⟩) (.string ⟨#[]⟩) (.slice none 0 0) (.slice none 0 0) (.slice none 0 0) (.slice none 0 0) 26)
  have hir := pkg_rowInfo
  have hB := Lib.hid h
  have hF := Lib.hid (By.frontA h m (by omega))
  have hR := Lib.hid (By.behindA h m (by omega))
  obtain ⟨_, _, va', vc', hv, q1, q2⟩ := h
  injection hv with e1 e2 e3
  subst e3
  have hbt := Lib.hid (le4_byts _ (crcI_le (zs.take m)).1 (crcI_le (zs.take m)).2)
  have hne' := Lib.hid hne
  unfold maxLen at q2
  obtain ⟨n, hn⟩ : ∃ n, zs.length = n := ⟨_, rfl⟩
  rw [hn] at hz q1 hR ⊢
  have hS := fun w1 (k : Below w.heap.size w w1) => sum_any (.slice (some ⟨g, o, none⟩) m vc) (zs.take m) w1 (hF.out.later k)
  have hz2 : ((n : Int) - 4) = (m : Int) := by omega
  have hz3 : (0 : Int) ≤ (m : Int) := by omega
  have hz4 : (m : Int) ≤ (n : Int) := by omega
  have hz5 : (m : Int) ≤ (vc : Int) := by omega
  have hz6 : (n : Int) ≤ (vc : Int) := by omega
  have hz7 : (m : Int) ≤ 9223372036854775807 := by omega
  have hz8 : ¬ ((m : Int) < 0) := by omega
  have Hz := Lib.hid hz
  clear hn q1 q2 hne hz e1 e2
  go_enter Tryz.func12, Tryz.ntmps12
  go_wp2_with fail
  go_region_held3 (fun _ => True) (exact trivial) (first
    | (go_at_call 18; refine (hS _ (by first | exact hO0.out.below | exact hO0.out.drew.below)).mono ?_; rintro e w3 ⟨v3, rfl, hO3⟩; obtain ⟨a3, n3, c3, rfl⟩ := hO3.formA; have hby3 := hO3.by hbt.out; have HO3 := Lib.hid (show Own w w3 ([rowU (.slice a3 n3 c3) (le4 (crcI (zs.take m)))] ++ [rowP6 w.heap.size zP6]) from by (first | exact hO0.out.join hO3 | exact hO0.out.drew.join hO3)); have hq := aequal_any w3 (.slice a3 n3 c3) (.slice (some ⟨g, o + m, none⟩) (n - m) (vc - m)) _ _ hby3 (hR.out.later HO3.out.below); rw [decide_eq_true hne'.out] at hq; clear hO3 hby3)
    | (go_at_call 32; refine hq.mono ?_; rintro e w4 ⟨rfl, rfl⟩))
  have hun := unpack_any (.slice (some ⟨g, o, none⟩) m vc) (zs.take m) w3 (hF.out.later HO3.out.below) (by rw [List.length_take]; omega)
  clear hq
  go_wp2_with fail
  refine hun.mono ?_
  rintro e w5 ⟨D, P, L5, rfl, hD, hI, hO5⟩
  have hP := hI.at hO5
  have HI := Lib.hid hI
  have HX := Lib.hid (show Own w _ (rowPk w5.heap.size D P :: (L5 ++ ([rowU (.slice a3 n3 c3) (le4 (crcI (zs.take m)))] ++ [rowP6 w.heap.size zP6]))) from (HO3.out.join hO5).box6 (.string D.name) (.string D.ver) (.slice P.an D.needs.length P.cn) (.slice P.ac D.confs.length P.cc) (.slice P.af D.files.length P.cf) (.slice P.au D.units.length P.cu) 26)
  have HPa := Lib.hid (hP.later ((Below.refl _ w5).alloc (Nat.le_refl _) (.cells #[.string D.name, .string D.ver, .slice P.an D.needs.length P.cn, .slice P.ac D.confs.length P.cc, .slice P.af D.files.length P.cf, .slice P.au D.units.length P.cu] 26)))
  have HD := Lib.hid hD
  have Hm := Lib.hid hm
  have hft := hfit D hD
  have HR := fun w1 (k : PkAt w1 D P) (k2 : Mx w1) => pkright_any D P w1 k hft k2
  have s0 := pk_cells HX.out (g := w5.heap.size) (D := D) (P := P) (List.mem_cons_self ..)
  have Hby := Lib.hid (fun f (hx : f ∈ D.files) => (hP.data f hx).2.1)
  clear hun hD hP hm hfit hI hO5
  go_wp2_with fail
  have hok := hok0 D HD.out
  clear hok0
  · simp only [hok] at HR
    have hw := few_of hok
    have HK := fun w1 (k : PkAt w1 D P) => pkpack_any D P w1 k hft hw
    have Hbt := Lib.hid (packP_byts D hft hw Hby.out)
    have Hok := Lib.hid hok
    clear hft hw hok
    by_cases hpq : packP D = zs.take m
    · have Hpq := Lib.hid hpq
      clear hpq
      go_region_held3 (fun w' : World => w'.cell? ⟨w5.heap.size, 0, none⟩ = some (.string D.name) ∧ w'.cell? ⟨w5.heap.size, 1, none⟩ = some (.string D.ver) ∧ w'.cell? ⟨w5.heap.size, 2, none⟩ = some (.slice P.an D.needs.length P.cn) ∧ w'.cell? ⟨w5.heap.size, 3, none⟩ = some (.slice P.ac D.confs.length P.cc) ∧ w'.cell? ⟨w5.heap.size, 4, none⟩ = some (.slice P.af D.files.length P.cf) ∧ w'.cell? ⟨w5.heap.size, 5, none⟩ = some (.slice P.au D.units.length P.cu)) (first | exact s0 | exact s6 | exact s7 | go_keep) (first
        | (go_at_call 10; refine (HR _ (by first | exact HPa.out | exact HPa.out.later (Below.refl _ _).drew) (Hm.out.later (by first | exact HX.out.below | exact HX.out.below.drew))).mono ?_; rintro e w6 ⟨rfl, hb6⟩; have HX6 := Lib.hid (show Own w w6 (rowPk w5.heap.size D P :: (L5 ++ ([rowU (.slice a3 n3 c3) (le4 (crcI (zs.take m)))] ++ [rowP6 w.heap.size zP6]))) from by (first | exact HX.out.later hb6 | exact HX.out.drew.later hb6)); have HP6 := Lib.hid (show PkAt w6 D P from by (first | exact HPa.out.later hb6 | exact (HPa.out.later (Below.refl _ _).drew).later hb6)); have s6 := pk_cells HX6.out (g := w5.heap.size) (D := D) (P := P) (List.mem_cons_self ..); clear hb6)
        | (go_at_call 16; refine (HK _ (by first | exact HP6.out | exact HP6.out.later (Below.refl _ _).drew)).mono ?_; rintro e w7 ⟨v7, rfl, hO7⟩; obtain ⟨a7, n7, c7, rfl⟩ := hO7.formA; have hb7 := hO7.by Hbt.out; have HP7 := Lib.hid (show PkAt w7 D P from by (first | exact HP6.out.later hO7.below | exact (HP6.out.later (Below.refl _ _).drew).later hO7.below)); have HX7 := Lib.hid (show Own w w7 ([rowU (.slice a7 n7 c7) (packP D)] ++ (rowPk w5.heap.size D P :: (L5 ++ ([rowU (.slice a3 n3 c3) (le4 (crcI (zs.take m)))] ++ [rowP6 w.heap.size zP6])))) from by (first | exact HX6.out.join hO7 | exact HX6.out.drew.join hO7)); have s7 := pk_cells HX7.out (g := w5.heap.size) (D := D) (P := P) (by simp); have hq7 := aequal_any w7 (.slice a7 n7 c7) (.slice (some ⟨g, o, none⟩) m vc) _ _ hb7 (hF.out.later HX7.out.below); rw [decide_eq_true Hpq.out] at hq7; clear hO7 hb7)
        | (go_at_call 32; refine hq7.mono ?_; rintro e w8 ⟨rfl, rfl⟩))
      clear hq7
      obtain ⟨⟨q0, q1, q2, q3, q4, q5⟩, ⟨f0, f1, f2, f3, f4, f5⟩, _⟩ := p6_cells HX7.out (H := w.heap.size) (a := .string ⟨#[]⟩) (b := .string ⟨#[]⟩) (c := .slice none 0 0) (d := .slice none 0 0) (e := .slice none 0 0) (f := .slice none 0 0) (by simp)
      obtain ⟨p0, p1, p2, p3, p4, p5⟩ := s7
      go_wp2_with fail
      rw [← set6]
      have h5 : Own w _ _ := p6_set (A := [rowU (.slice a7 n7 c7) (packP D), rowPk w5.heap.size D P] ++ L5 ++ [rowU (.slice a3 n3 c3) (le4 (crcI (zs.take m)))]) (B := []) (by simpa using HX7.out) rfl [.string D.name, .string D.ver, .slice P.an D.needs.length P.cn, .slice P.ac D.confs.length P.cc, .slice P.af D.files.length P.cf, .slice P.au D.units.length P.cu] rfl
      obtain ⟨_, _, k5⟩ := p6_cells h5 (List.mem_cons_self ..)
      refine bodyPost_ret (ret_cellT Tryz.results12 rfl rfl k5 Tryz.underlying26 rfl hir) rfl ?_
      exact ⟨D, P, HD.out, (HI.out.mono fun r hr => by simp [hr]).at h5, h5.below, .inl ⟨Hok.out, Hpq.out, rfl⟩⟩
    · have Hpq := Lib.hid hpq
      clear hpq
      go_region_held3 (fun w' : World => w'.cell? ⟨w5.heap.size, 0, none⟩ = some (.string D.name) ∧ w'.cell? ⟨w5.heap.size, 1, none⟩ = some (.string D.ver) ∧ w'.cell? ⟨w5.heap.size, 2, none⟩ = some (.slice P.an D.needs.length P.cn) ∧ w'.cell? ⟨w5.heap.size, 3, none⟩ = some (.slice P.ac D.confs.length P.cc) ∧ w'.cell? ⟨w5.heap.size, 4, none⟩ = some (.slice P.af D.files.length P.cf) ∧ w'.cell? ⟨w5.heap.size, 5, none⟩ = some (.slice P.au D.units.length P.cu)) (first | exact s0 | exact s6 | exact s7 | go_keep) (first
        | (go_at_call 10; refine (HR _ (by first | exact HPa.out | exact HPa.out.later (Below.refl _ _).drew) (Hm.out.later (by first | exact HX.out.below | exact HX.out.below.drew))).mono ?_; rintro e w6 ⟨rfl, hb6⟩; have HX6 := Lib.hid (show Own w w6 (rowPk w5.heap.size D P :: (L5 ++ ([rowU (.slice a3 n3 c3) (le4 (crcI (zs.take m)))] ++ [rowP6 w.heap.size zP6]))) from by (first | exact HX.out.later hb6 | exact HX.out.drew.later hb6)); have HP6 := Lib.hid (show PkAt w6 D P from by (first | exact HPa.out.later hb6 | exact (HPa.out.later (Below.refl _ _).drew).later hb6)); have s6 := pk_cells HX6.out (g := w5.heap.size) (D := D) (P := P) (List.mem_cons_self ..); clear hb6)
        | (go_at_call 16; refine (HK _ (by first | exact HP6.out | exact HP6.out.later (Below.refl _ _).drew)).mono ?_; rintro e w7 ⟨v7, rfl, hO7⟩; obtain ⟨a7, n7, c7, rfl⟩ := hO7.formA; have hb7 := hO7.by Hbt.out; have HP7 := Lib.hid (show PkAt w7 D P from by (first | exact HP6.out.later hO7.below | exact (HP6.out.later (Below.refl _ _).drew).later hO7.below)); have HX7 := Lib.hid (show Own w w7 ([rowU (.slice a7 n7 c7) (packP D)] ++ (rowPk w5.heap.size D P :: (L5 ++ ([rowU (.slice a3 n3 c3) (le4 (crcI (zs.take m)))] ++ [rowP6 w.heap.size zP6])))) from by (first | exact HX6.out.join hO7 | exact HX6.out.drew.join hO7)); have s7 := pk_cells HX7.out (g := w5.heap.size) (D := D) (P := P) (by simp); have hq7 := aequal_any w7 (.slice a7 n7 c7) (.slice (some ⟨g, o, none⟩) m vc) _ _ hb7 (hF.out.later HX7.out.below); rw [decide_eq_false Hpq.out] at hq7; clear hO7 hb7)
        | (go_at_call 32; refine hq7.mono ?_; rintro e w8 ⟨rfl, rfl⟩))
      clear hq7
      obtain ⟨⟨q0, q1, q2, q3, q4, q5⟩, ⟨f0, f1, f2, f3, f4, f5⟩, _⟩ := p6_cells HX7.out (H := w.heap.size) (a := .string ⟨#[]⟩) (b := .string ⟨#[]⟩) (c := .slice none 0 0) (d := .slice none 0 0) (e := .slice none 0 0) (f := .slice none 0 0) (by simp)
      obtain ⟨p0, p1, p2, p3, p4, p5⟩ := s7
      go_wp2_with fail
      rw [← set6]
      have h5 : Own w _ _ := p6_set (A := [rowU (.slice a7 n7 c7) (packP D), rowPk w5.heap.size D P] ++ L5 ++ [rowU (.slice a3 n3 c3) (le4 (crcI (zs.take m)))]) (B := []) (by simpa using HX7.out) rfl [.string ⟨#[]⟩, .string ⟨#[]⟩, .slice none 0 0, .slice none 0 0, .slice none 0 0, .slice none 0 0] rfl
      obtain ⟨_, _, k5⟩ := p6_cells h5 (List.mem_cons_self ..)
      refine bodyPost_ret (ret_cellT Tryz.results12 rfl rfl k5 Tryz.underlying26 rfl hir) rfl ?_
      exact ⟨D, P, HD.out, (HI.out.mono fun r hr => by simp [hr]).at h5, h5.below, .inr ⟨fun h => Hpq.out h.2, rfl⟩⟩
end Go.Proofs.YtihnjhigemhknaaGreatDoor
