/- A package as bytes. -/
import Derived.Test.YtihnjhigemhknaaGreatDoorAr6
import Derived.Test.YtihnjhigemhknaaGreatDoorCOf
import Derived.Deep.RegionHeld3
namespace Go.Proofs.YtihnjhigemhknaaGreatDoor
open Go.RowKit
set_option linter.unusedVariables false
set_option linter.unusedSimpArgs false
set_option maxRecDepth 100000

theorem IsBytes.of_by {w : World} {v : Value} {zs : List Int} (h : By w v zs) : IsBytes w v zs := by
  obtain ⟨a, c, hv, h1, h2⟩ := h.2.2
  refine ⟨a, c, hv, ⟨h1, by unfold maxLen at h2; omega, fun ha => ?_⟩, fun hne => ?_, h.2.1⟩
  · rcases h.1 with ⟨e, _, _⟩ | ⟨ad, c', e, _⟩
    · rw [hv] at e
      injection e
    · rw [hv, ha] at e
      injection e with e1
      cases e1
  · obtain ⟨g, o, c', hv', _, _, hc⟩ := h.cells (List.length_pos_iff.2 hne)
    rw [hv] at hv'
    injection hv' with e1 e2 e3
    refine ⟨g, o, e1, fun j hj => ?_⟩
    rw [hc j hj, List.getD_eq_getElem?_getD, List.getElem?_eq_getElem hj]
    rfl
def textL (s : ByteArray) : List Int := sizedL (sb s)
def packP (D : PkgD) : List Int := textL D.name ++ (textL D.ver ++ (sizedL (D.needs.map packN).flatten ++ (sizedL (D.confs.map textL).flatten ++ (sizedL (D.files.map packF).flatten ++ sizedL (D.units.map textL).flatten))))
/-- As many of each as there may be; of each need a way that there is. -/
structure FewD (D : PkgD) : Prop where
  needs : D.needs.length ≤ 8
  confs : D.confs.length ≤ 8
  files : D.files.length ≤ 12
  units : D.units.length ≤ 4
  ways : ∀ n ∈ D.needs, 0 ≤ n.way ∧ n.way ≤ 3
theorem wayOk_le {n : NeedD} (h : wayOk n = true) : 0 ≤ n.way ∧ n.way ≤ 3 := by
  by_cases h0 : n.way = 0
  · omega
  · by_cases h1 : n.way = 1 ∨ n.way = 2 ∨ n.way = 3
    · omega
    · rw [wayOk_no h0 h1] at h; cases h
theorem few_of {D : PkgD} (h : pkOk D = true) : FewD D := by
  unfold pkOk fewOk at h
  simp only [Bool.and_eq_true, decide_eq_true_eq, Bool.not_eq_true', List.any_eq_false] at h
  obtain ⟨⟨_, ⟨⟨⟨h1, h2⟩, h3⟩, h4⟩⟩, ⟨⟨⟨h5, _⟩, _⟩, _⟩⟩ := h
  refine ⟨h1, h2, h3, h4, fun n hn => ?_⟩
  have := h5 n hn
  have hk : needOk n = true := by
    cases hq : needOk n with
    | true => rfl
    | false => exact absurd (by rw [hq]; first | done | rfl) this
  unfold needOk at hk
  simp only [Bool.and_eq_true] at hk
  exact wayOk_le hk.2
theorem flat_le {α : Type} (f : α → List Int) (M : Nat) (xs : List α) (h : ∀ x ∈ xs, (f x).length ≤ M) : ((xs.map f).flatten).length ≤ xs.length * M := by
  induction xs with
  | nil => simp
  | cons x xs ih =>
    have h1 := ih fun y hy => h y (List.mem_cons_of_mem _ hy)
    have h2 := h x (List.mem_cons_self ..)
    simp only [List.map_cons, List.flatten_cons, List.length_append, List.length_cons]
    rw [Nat.add_mul]
    omega
theorem flat_byts {α : Type} (f : α → List Int) (xs : List α) (h : ∀ x ∈ xs, Byts (f x)) : Byts (xs.map f).flatten := by
  induction xs with
  | nil => exact Byts.nil
  | cons x xs ih =>
    simp only [List.map_cons, List.flatten_cons]
    exact (h x (List.mem_cons_self ..)).append (ih fun y hy => h y (List.mem_cons_of_mem _ hy))
theorem textL_byts (s : ByteArray) (h : s.size ≤ 1000000) : Byts (textL s) := sizedL_byts _ (sb_byts _) (by rw [sb_length]; omega)
theorem textL_len (s : ByteArray) : (textL s).length = s.size + 4 := by unfold textL; rw [sizedL_length, sb_length]
theorem packN_len (n : NeedD) (h1 : n.name.size ≤ 1000000) (h2 : n.ver.size ≤ 1000000) : (packN n).length ≤ 2000012 := by
  unfold packN
  simp only [List.length_append, sizedL_length, sb_length]
  have : (le4 n.way).length = 4 := rfl
  omega
theorem packF_len (f : FileD) (h1 : f.path.size ≤ 1000000) (h2 : f.data.length ≤ 1000000) : (packF f).length ≤ 2000012 := by
  unfold packF
  simp only [List.length_append, sizedL_length, sb_length]
  have : (le4 (if f.config then 1 else 0)).length = 4 := rfl
  omega
theorem packN_byts (n : NeedD) (h1 : n.name.size ≤ 1000000) (h2 : n.ver.size ≤ 1000000) (h3 : 0 ≤ n.way) (h4 : n.way ≤ 3) : Byts (packN n) :=
  (textL_byts _ h1).append ((le4_byts _ h3 (by omega)).append (textL_byts _ h2))
theorem packF_byts (f : FileD) (h1 : f.path.size ≤ 1000000) (h2 : f.data.length ≤ 1000000) (h3 : Byts f.data) : Byts (packF f) :=
  (textL_byts _ h1).append ((le4_byts _ (by split <;> decide) (by split <;> decide)).append (sizedL_byts _ h3 (by omega)))
/-- Parts are packed, whichever. -/
theorem packs_any {W0 : Base} {w : World} {PS : List (Value × List Int)} {L : List Rw} (hO : Own W0 w L) (hr : ∀ p ∈ PS, rowU p.1 p.2 ∈ L ∧ Byts p.2) (hn : PS.length ≤ 1000) (hl : (allOf PS).length ≤ 1000000000) :
    Calls Tryz.prog 17 #[.slice (some ⟨w.heap.size, 0, none⟩) PS.length PS.length] (w.alloc (.cells (PS.map (·.1)).toArray 58)) (fun e w' => ∃ v, e = .returned v ∧ Own W0 w' (rowU v (allOf PS) :: L)) ∧
    Calls Tryz.prog 17 #[.slice (some ⟨w.heap.size, 0, none⟩) PS.length PS.length] (w.alloc (.cells (PS.map (·.1)).toArray 58)).drew (fun e w' => ∃ v, e = .returned v ∧ Own W0 w' (rowU v (allOf PS) :: L)) := by
  have hP : Parts (w.alloc (.cells (PS.map (·.1)).toArray 58)) (some ⟨w.heap.size, 0, none⟩) PS := parts_list w 58 PS (fun p hp => (hO.only (hr p hp).1).by (hr p hp).2) w.heap.size rfl
  have hA := hO.alloc (.cells (PS.map (·.1)).toArray 58)
  refine ⟨(pack_any (some ⟨w.heap.size, 0, none⟩) PS.length PS (w.alloc (.cells (PS.map (·.1)).toArray 58)) hP (by unfold maxLen; omega) (by omega)).mono ?_, (pack_any (some ⟨w.heap.size, 0, none⟩) PS.length PS (World.drew (w.alloc (.cells (PS.map fun (x : Value × List Int) => x.1).toArray 58))) hP (by unfold maxLen; omega) (by omega)).mono ?_⟩
  · rintro e w' ⟨v, rfl, hO2⟩
    exact ⟨v, rfl, hA.join hO2⟩
  · rintro e w' ⟨v, rfl, hO2⟩
    exact ⟨v, rfl, hA.drew.join hO2⟩
end Go.Proofs.YtihnjhigemhknaaGreatDoor
