/- 'Split' of package path: a text's names, in a row of the call's own. -/
import Derived.Test.YtjhaihckbmkiaaaDoorPName2
import Derived.Test.YtjhaihckbmkiaaaDoorShelf
namespace Go.Proofs.YtjhaihckbmkiaaaDoor
open Go.RowKit
set_option linter.unusedVariables false
set_option linter.unusedSimpArgs false

/-- Texts as a row's cells; a row of texts. -/
abbrev strs (ls : List (List UInt8)) : List Value := ls.map fun l => Value.string (toB l)
abbrev rowSs (v : Value) (ls : List (List UInt8)) : Rw := ⟨9, 1, v, ls.length, strs ls⟩
theorem strs_length (ls : List (List UInt8)) : (strs ls).length = ls.length := by simp [strs]
theorem strs_at (ls : List (List UInt8)) (j : Nat) (h : j < ls.length) : (strs ls)[j]? = some (.string (toB ls[j])) := by simp [strs, h]
/-- The library's own bound of bytes: whatever number. -/
def Mx (w : World) : Prop := 0 < w.heap.size ∧ ∃ m : Int, w.cell? ⟨0, 0, none⟩ = some (.int .i64 m)
theorem Mx.later {w w' : World} (h : Mx w) (hb : Below w.heap.size w w') : Mx w' := by
  obtain ⟨h1, m, h2⟩ := h
  exact ⟨Nat.lt_of_lt_of_le h1 hb.size, m, by rw [hb.cell (p := ⟨0, 0, none⟩) h1]; exact h2⟩
theorem Mx.own {W0 : Base} {w : World} {L : List Rw} (h : Mx W0.world) (hO : Own W0 w L) : Mx w := h.later hO.below

/-- strings.Split between slashes. -/
theorem split_slash (s : ByteArray) (w : World) (hs : s.size ≤ 1000000) (hm : Mx w) : Calls Tryd.prog 44 #[.string s, .string ⟨#[47]⟩] w fun e w' =>
    e = .returned (.slice (some ⟨w.heap.size, 0, none⟩) (partsL s.data.toList).length (partsL s.data.toList).length) ∧ w' = w.alloc (.cells (strs (partsL s.data.toList)).toArray 9) := by
  obtain ⟨_, m, h2⟩ := hm
  have hsz : (⟨#[47]⟩ : ByteArray).size = 1 := rfl
  refine (Tryd.strings_Split s ⟨#[47]⟩ m w (by omega) h2 (by rw [hsz]; exact Nat.le_refl _)).mono ?_
  rintro e w' ⟨rfl, rfl⟩
  have h3 := splitB_parts s ⟨#[47]⟩ rfl
  have h4 := Lib.splitB_all ⟨#[47]⟩ (by rw [hsz]; exact Nat.le_refl _) 0 (Lib.countB s ⟨#[47]⟩) s rfl
  rw [h3] at h4
  rw [List.length_map] at h4
  rw [h3, ← h4, List.map_map]
  exact ⟨rfl, rfl⟩

theorem cut_pre (s p : ByteArray) (w : World) : Calls Tryd.prog 43 #[.string s, .string p] w fun e w' => e = .returned (.tuple #[.string ⟨(Lib.trimPrefix s.data.toList p.data.toList).toArray⟩, .bool (Lib.hasPrefix s.data.toList p.data.toList)]) ∧ w = w' :=
  (Tryd.strings_CutPrefix s p w).mono fun _ _ ⟨h1, h2⟩ => ⟨h1, h2.symm⟩
theorem name_list (l : List UInt8) (w : World) (hl : l.length ≤ 1000000) : Calls Tryd.prog 28 #[.string (toB l)] w fun e w' => e = .returned (.bool (nameL l)) ∧ Below w.heap.size w w' :=
  name_any (toB l) w (by rw [toB_size]; unfold maxLen; omega)
theorem Own.str {W0 : Base} {w : World} {g c : Nat} {ls : List (List UInt8)} {L : List Rw} (h : Own W0 w (rowSs (.slice (some ⟨g, 0, none⟩) ls.length c) ls :: L)) (k : Nat) (hk : k < ls.length) : w.cell? ⟨g, k, none⟩ = some (.string (toB ls[k])) := by
  rw [h.cell k (by omega)]; exact strs_at ls k hk
def SplitPost (w : World) (l : List UInt8) (e : Ending) (w' : World) : Prop := ∃ v, e = .returned (.tuple #[v, .bool (okP l)]) ∧ Own w w' [rowSs v (namesL l)]
theorem splitPost_no {w w' : World} {l : List UInt8} (h : okP l = false) (hb : Below w.heap.size w w') : SplitPost w l (.returned (.tuple #[.slice none 0 0, .bool false])) w' := by
  refine ⟨_, by rw [h], ?_⟩
  have h1 : namesL l = [] := by
    unfold namesL; rw [h]; split <;> rfl
  rw [h1]
  exact (Own.of_below hb).nil _ _
theorem okP_no_pre {l : List UInt8} (h1 : l ≠ [47]) (h : Lib.hasPrefix l [47] = false ∨ 40 < l.length) : okP l = false := by
  unfold okP
  rw [decide_eq_false h1]
  rcases h with h | h
  · have h2 : ¬ l.head? = some 47 := by
      intro e
      cases l with
      | nil => cases e
      | cons c l => simp at e; subst e; simp [Lib.hasPrefix, List.isPrefixOf] at h
    rw [decide_eq_false h2]; simp
  · rw [decide_eq_false (show ¬ l.length ≤ 40 by omega)]; simp
theorem okP_pre {l : List UInt8} (h1 : l ≠ [47]) (h2 : Lib.hasPrefix l [47] = true) (h3 : l.length ≤ 40) : okP l = (decide ((partsL l.tail).length ≤ 5) && (partsL l.tail).all nameL) ∧ Lib.trimPrefix l [47] = l.tail := by
  have h4 : l.head? = some 47 := by
    cases l with
    | nil => simp [Lib.hasPrefix, List.isPrefixOf] at h2
    | cons c l => simp [Lib.hasPrefix, List.isPrefixOf] at h2; simp [h2]
  refine ⟨?_, ?_⟩
  · unfold okP; rw [decide_eq_false h1, decide_eq_true h3, decide_eq_true h4]; simp
  · unfold Lib.trimPrefix; rw [h2]; simp
theorem all_take_succ {α : Type} (f : α → Bool) (ls : List α) (k : Nat) (h : k < ls.length) : (ls.take (k + 1)).all f = ((ls.take k).all f && f ls[k]) := by
  rw [List.take_succ_eq_append_getElem h, List.all_append, List.all_cons, List.all_nil, Bool.and_true]
theorem all_at_no {α : Type} (f : α → Bool) (ls : List α) (k : Nat) (h : k < ls.length) (hf : f ls[k] = false) : ls.all f = false := by
  rw [List.all_eq_false]
  exact ⟨ls[k], List.getElem_mem _, by rw [hf]; decide⟩
set_option maxHeartbeats 2000000 in
theorem split_any (s : ByteArray) (w : World) (hs : s.size ≤ maxLen) (hm : Mx w) : Calls Tryd.prog 36 #[.string s] w (SplitPost w s.data.toList) := by
  unfold maxLen at hs
  have hz : s.data.toList.length = s.size := (Lib.size_eq s).symm
  by_cases h1 : s.toList = [47]
  · have h1' : (s.toList == [47]) = true := beq_iff_eq.2 h1
    have hl : s.data.toList = [47] := by rw [← Lib.toList_data]; exact h1
    have HP := Lib.hid (show SplitPost w s.data.toList (.returned (.tuple #[.slice none 0 0, .bool true])) w from by
      rw [hl]; exact ⟨_, rfl, (Own.start w).nil _ _⟩)
    clear hl hz
    go_enter Tryd.func36, Tryd.ntmps36
    go_wp2
    go_ret2
    exact HP.out
  have h1' : (s.toList == [47]) = false := beq_eq_false_iff_ne.2 h1
  have h1l : s.data.toList ≠ [47] := by rw [← Lib.toList_data]; exact h1
  by_cases h2 : Lib.hasPrefix s.data.toList [47] = true
  · by_cases h3 : s.size ≤ 40
    · obtain ⟨h4, h5⟩ := okP_pre h1l h2 (by omega)
      have hlen := partsL_length s.data.toList.tail
      have htl : s.data.toList.tail.length ≤ 40 := by rw [List.length_tail]; omega
      have hnm : namesL s.data.toList = if okP s.data.toList then partsL s.data.toList.tail else [] := by unfold namesL; rw [if_neg h1l]
      have hsp := split_slash (toB s.data.toList.tail)
      have hts : (toB s.data.toList.tail).size ≤ 1000000 := by rw [toB_size]; omega
      have hsp : ∀ w, Mx w → Calls Tryd.prog 44 #[.string ⟨(Lib.trimPrefix s.data.toList [47]).toArray⟩, .string ⟨#[47]⟩] w fun e w' => e = .returned (.slice (some ⟨w.heap.size, 0, none⟩) (partsL s.data.toList.tail).length (partsL s.data.toList.tail).length) ∧ w' = w.alloc (.cells (strs (partsL s.data.toList.tail)).toArray 9) := by
        intro w hm; rw [h5]; exact hsp w hts hm
      have HP := Lib.hid h4
      have HQ := Lib.hid hnm
      have HL := Lib.hid (show ∀ p ∈ partsL s.data.toList.tail, p.length ≤ 40 from fun p hp => Nat.le_trans (parts_le _ p hp) htl)
      have hlen40 : (partsL s.data.toList.tail).length ≤ 41 := by omega
      clear hnm hlen h4 h5 hts h1l hz htl
      generalize s.data.toList.tail = rest at *
      generalize hls : partsL rest = ls at *
      clear hls
      by_cases h6 : ls.length ≤ 5
      · go_enter Tryd.func36, Tryd.ntmps36
        go_wp2_with (first
          | (go_at_call 43; refine (cut_pre _ _ _).mono ?_; rintro e w' ⟨rfl, rfl⟩)
          | (go_at_call 44; refine (hsp _ hm).mono ?_; rintro e w' ⟨rfl, rfl⟩))
        go_loopw [30] (fun i wr => ∃ k : Nat, k ≤ ls.length ∧ i = .int .i64 k ∧ Own w wr [rowSs (.slice (some ⟨w.heap.size, 0, none⟩) ls.length ls.length) ls] ∧ Hid ((ls.take k).all nameL = true)) (fun i _ => ls.length - (intOf i).toNat)
        case atStart => exact ⟨0, Nat.zero_le _, rfl, by have := (Own.start w).made 9 1 (strs ls).toArray ls.length (by simp [strs]) (by unfold maxLen; omega); simpa using this, rfl⟩
        case round =>
          obtain ⟨k, hk, rfl, hO, HA⟩ := hrel
          by_cases hlt : k < ls.length
          · have hc := hO.str k hlt
            have HS := Lib.hid (all_take_succ nameL ls k hlt)
            have HF := Lib.hid (all_at_no nameL ls k hlt)
            have hl1 := HL.out ls[k] (List.getElem_mem _)
            have HC := name_list ls[k]
            generalize ls[k] = l at *
            by_cases hn : nameL l = true
            · go_wp2_with (go_at_call 28; refine (HC _ (by omega)).mono ?_; rintro e w' ⟨rfl, hb⟩)
              have hO2 := hO.later hb
              go_roundw
              case rel => exact ⟨k + 1, by omega, by go_num, hO2, by show (ls.take (k + 1)).all nameL = true; rw [HS.out, HA.out, hn]; rfl⟩
              case measure => simp [intOf]; omega
            · have hn' : nameL l = false := by simpa using hn
              clear hn
              go_wp2_with (go_at_call 28; refine (HC _ (by omega)).mono ?_; rintro e w' ⟨rfl, hb⟩)
              have hO2 := hO.later hb
              go_ret2
              exact splitPost_no (by rw [HP.out, HF.out hn']; simp) hO2.below
          · have HT := Lib.hid (show ls.take k = ls from List.take_of_length_le (by omega))
            have HE := Lib.hid (show okP s.data.toList = true from by rw [HP.out, ← HT.out, HA.out, HT.out, decide_eq_true h6]; rfl)
            have HG := Lib.hid (show SplitPost w s.data.toList (.returned (.tuple #[.slice (some ⟨w.heap.size, 0, none⟩) ls.length ls.length, .bool true])) wr from ⟨_, by rw [HE.out], by rw [HQ.out, HE.out]; exact hO⟩)
            clear HT HA HP HQ HL hO
            go_wp2
            go_ret2
            exact HG.out
      · have HN := Lib.hid (show okP s.data.toList = false from by rw [HP.out, decide_eq_false h6]; rfl)
        go_enter Tryd.func36, Tryd.ntmps36
        go_wp2_with (first
          | (go_at_call 43; refine (cut_pre _ _ _).mono ?_; rintro e w' ⟨rfl, rfl⟩)
          | (go_at_call 44; refine (hsp _ hm).mono ?_; rintro e w' ⟨rfl, rfl⟩))
        go_ret2
        exact splitPost_no HN.out ((Below.refl _ _).alloc (Nat.le_refl _) _)
    · have HN := Lib.hid (okP_no_pre h1l (.inr (by omega)))
      clear h1l hz
      go_enter Tryd.func36, Tryd.ntmps36
      go_wp2_with (go_at_call 43; refine (cut_pre _ _ _).mono ?_; rintro e w' ⟨rfl, rfl⟩)
      go_ret2
      exact splitPost_no HN.out (Below.refl _ _)
  · have h2' : Lib.hasPrefix s.data.toList [47] = false := by simpa using h2
    have HN := Lib.hid (okP_no_pre h1l (.inl h2'))
    clear h1l hz
    go_enter Tryd.func36, Tryd.ntmps36
    go_wp2_with (go_at_call 43; refine (cut_pre _ _ _).mono ?_; rintro e w' ⟨rfl, rfl⟩)
    go_ret2
    exact splitPost_no HN.out (Below.refl _ _)
end Go.Proofs.YtjhaihckbmkiaaaDoor
