/- The reference of package path: 'Split'. -/
import Derived.Test.YtjhaihckbmkiaaaDoorPRef
namespace Go.Proofs.YtjhaihckbmkiaaaDoor
open Go.RowKit
set_option linter.unusedVariables false
set_option linter.unusedSimpArgs false

theorem info_ss : (Tryd.prog.info? 9).map (fun i => (i.zero, i.size, i.bytes)) = some (some (.string ⟨#[]⟩), 1, 16) := by kernel_rfl
theorem okP_back {l : List UInt8} (h1 : l ≠ [47]) (h2 : 1 ≤ l.length) (h3 : l.length ≤ 40) (h4 : l.head? = some 47) : okP l = (decide ((partsL (l.drop 1)).length ≤ 5) && (partsL (l.drop 1)).all nameL) ∧ namesL l = (if okP l then partsL (l.drop 1) else []) := by
  refine ⟨?_, ?_⟩
  · unfold okP; rw [decide_eq_false h1, decide_eq_true h3, decide_eq_true h4, List.drop_one]; simp
  · unfold namesL; rw [if_neg h1, List.drop_one]
theorem okP_head {l : List UInt8} (h1 : l ≠ [47]) (h : l.length < 1 ∨ 40 < l.length ∨ l.head? ≠ some 47) : okP l = false := by
  unfold okP
  rw [decide_eq_false h1]
  rcases h with h | h | h
  · have : l = [] := List.length_eq_zero_iff.1 (by omega)
    subst this; simp
  · rw [decide_eq_false (show ¬ l.length ≤ 40 by omega)]; simp
  · rw [decide_eq_false h]; simp
theorem head_at (s : ByteArray) (h : 0 < s.size) : s.data.toList.head? = some s[0] := by
  have h2 : 0 < s.data.toList.length := by rw [← Lib.size_eq]; exact h
  rw [List.head?_eq_getElem?, List.getElem?_eq_getElem h2]; rfl
theorem byte_int (c : UInt8) : ((c.toNat : Int) == 47) = decide (c = 47) := by
  rw [Bool.eq_iff_iff, beq_iff_eq, decide_eq_true_iff]
  constructor
  · intro h; apply UInt8.toNat_inj.1; show c.toNat = 47; omega
  · rintro rfl; rfl
/-- One value as what is appended. -/
theorem src_one (w : World) (u : Value) (T : TypeId) (h : u.oneCell' = true) : Src (w.alloc (.cells #[u] T)) (.slice (some ⟨w.heap.size, 0, none⟩) 1 1) 1 [u] := by
  refine .inr ⟨_, _, rfl, fun j x hj => ?_, fun x hx => by rw [List.mem_singleton.1 hx]; exact h⟩
  rw [Addr.add_mid, Nat.zero_add, World.cell?_alloc_new]
  simpa using hj
theorem rowS_push {W0 : Base} {w : World} {v : Value} {done : List (List UInt8)} {x : ByteArray} {p : List UInt8} {L : List Rw} (h : Own W0 w (⟨9, 1, v, done.length + 1, strs done ++ [.string x]⟩ :: L)) (hx : x = toB p) : Own W0 w (rowSs v (done ++ [p]) :: L) := by
  subst hx
  have e : (⟨9, 1, v, done.length + 1, strs done ++ [.string (toB p)]⟩ : Rw) = rowSs v (done ++ [p]) := by
    simp [rowSs, strs]
  rw [← e]; exact h
set_option maxRecDepth 100000 in
set_option maxHeartbeats 4000000 in
theorem refsplit_any (s : ByteArray) (w : World) (hs : s.size ≤ maxLen) : Calls Tryd.prog 18 #[.string s] w (SplitPost w s.data.toList) := by
  unfold maxLen at hs
  have hz : s.data.toList.length = s.size := (Lib.size_eq s).symm
  by_cases h1 : s.toList = [47]
  · have h1' : (s.toList == [47]) = true := beq_iff_eq.2 h1
    have hl : s.data.toList = [47] := by rw [← Lib.toList_data]; exact h1
    have HP := Lib.hid (show SplitPost w s.data.toList (.returned (.tuple #[.slice none 0 0, .bool true])) w from by
      rw [hl]; exact ⟨_, rfl, (Own.start w).nil _ _⟩)
    clear hl hz
    go_enter Tryd.func18, Tryd.ntmps18
    go_wp2
    go_ret2
    exact HP.out
  have h1' : (s.toList == [47]) = false := beq_eq_false_iff_ne.2 h1
  have h1l : s.data.toList ≠ [47] := by rw [← Lib.toList_data]; exact h1
  by_cases h2 : 1 ≤ s.size
  · by_cases h3 : s.size ≤ 40
    · have hh := head_at s h2
      have hb := byte_int s[0]
      by_cases h4 : s[0] = 47
      · rw [decide_eq_true h4] at hb
        have hbn : ((s[0].toNat : Int) != 47) = false := by rw [bne, hb]; rfl
        obtain ⟨h5, h6⟩ := okP_back h1l (by omega) (by omega) (by rw [hh, h4])
        have H5 := Lib.hid h5
        have H6 := Lib.hid h6
        have HC := Lib.hid (Cut.start s.data.toList (by omega))
        have HZ := Lib.hid hz
        clear h5 h6 hh h1l hz h4 h1
        obtain ⟨i0, hi, hz0, hz1, hz2⟩ := info_parts info_ss
        go_enter Tryd.func18, Tryd.ntmps18
        go_wp2
        clear hb hbn h1'
        go_loopw [4, 5, 6] (fun v fr i wr => ∃ (done : List (List UInt8)) (f k : Nat), k ≤ s.size + 1 ∧ f ≤ k ∧ fr = .int .i64 f ∧ i = .int .i64 k ∧ Own w wr [rowSs v done] ∧ Hid (Cut s.data.toList done f k)) (fun _ _ i _ => s.size + 1 - (intOf i).toNat)
        case atStart => exact ⟨[], 1, 1, by omega, Nat.le_refl _, rfl, rfl, (Own.start w).made 9 1 #[] 0 rfl (by unfold maxLen; omega), HC⟩
        case round =>
          obtain ⟨done, f, k, hk, hfk, rfl, rfl, hO, HC2⟩ := hrel
          have hfew := HC2.out.few (by rw [HZ.out]; exact h3)
          by_cases hlt : k ≤ s.size
          · have HE := Lib.hid (show s.extract f k = toB ((s.data.toList.drop f).take (k - f)) by apply ByteArray.ext; rw [← Array.toList_inj, Lib.extract_data])
            by_cases hend : k = s.size
            · have HC3 := Lib.hid (HC2.out.stop (by rw [HZ.out]; exact hend))
              have e1 : ((k : Int) == (s.size : Int)) = true := by rw [beq_iff_eq]; omega
              have e2 : (k == s.size) = true := by simpa using hend
              clear hend
              obtain ⟨aq, cq, rfl, _, _⟩ := hO.sized
              have HO := Lib.hid (show Own w (wr.alloc (.cells #[.string (s.extract f k)] 9)) [rowSs (.slice aq done.length cq) done] from hO.alloc _)
              have Hsrc := Lib.hid (src_one wr (.string (s.extract f k)) 9 rfl)
              clear hO HC2 HC
              go_wp2_with (at_builtin; refine wpList_append_src rfl (.tmp 40) (.tmp 45) 25 rfl (.slice aq done.length cq) done.length (strs done) (.slice (some ⟨wr.heap.size, 0, none⟩) 1 1) 1 [.string (s.extract f k)] rfl rfl HO.out i0 (.string ⟨#[]⟩) 16 Tryd.underlying25 hi hz0 hz1 hz2 rfl (by decide) Hsrc.out rfl (by unfold maxLen; omega) (by omega) ?_)
              intro v2 w2 hO2
              have HO2 := Lib.hid (show Own w w2 [rowSs v2 (done ++ [(s.data.toList.drop f).take (k - f)])] from rowS_push hO2 HE.out)
              clear hO2
              go_wp2_with fail
              exact ⟨⟨_, k + 1, k + 1, by omega, Nat.le_refl _, by go_num, by go_num, HO2.out, HC3⟩, by simp [intOf]; omega⟩
            · have hk2 : k < s.size := by omega
              have e1 : ((k : Int) == (s.size : Int)) = false := by rw [beq_eq_false_iff_ne]; omega
              have e2 : (k == s.size) = false := by simpa using hend
              have e3 : (k : Int) < (s.size : Int) := by omega
              have hb := byte_int s[k]
              have hkl : k < s.data.toList.length := by rw [HZ.out]; exact hk2
              have hsk : s.data.toList[k] = s[k] := rfl
              by_cases h4 : s[k] = 47
              · rw [decide_eq_true h4] at hb
                have HC3 := Lib.hid (HC2.out.slash hkl (by rw [hsk]; exact h4))
                clear hend hsk hkl h4
                obtain ⟨aq, cq, rfl, _, _⟩ := hO.sized
                have HO := Lib.hid (show Own w (wr.alloc (.cells #[.string (s.extract f k)] 9)) [rowSs (.slice aq done.length cq) done] from hO.alloc _)
                have Hsrc := Lib.hid (src_one wr (.string (s.extract f k)) 9 rfl)
                clear hO HC2 HC
                go_wp2_with (at_builtin; refine wpList_append_src rfl (.tmp 40) (.tmp 45) 25 rfl (.slice aq done.length cq) done.length (strs done) (.slice (some ⟨wr.heap.size, 0, none⟩) 1 1) 1 [.string (s.extract f k)] rfl rfl HO.out i0 (.string ⟨#[]⟩) 16 Tryd.underlying25 hi hz0 hz1 hz2 rfl (by decide) Hsrc.out rfl (by unfold maxLen; omega) (by omega) ?_)
                intro v2 w2 hO2
                have HO2 := Lib.hid (show Own w w2 [rowSs v2 (done ++ [(s.data.toList.drop f).take (k - f)])] from rowS_push hO2 HE.out)
                clear hO2
                go_wp2_with fail
                exact ⟨⟨_, k + 1, k + 1, by omega, Nat.le_refl _, by go_num, by go_num, HO2.out, HC3⟩, by simp [intOf]; omega⟩
              · rw [decide_eq_false h4] at hb
                have HC3 := Lib.hid (HC2.out.on hkl (by rw [hsk]; exact h4))
                have hbi : ¬ (s[k].toNat : Int) = 47 := by simpa using hb
                clear hend hsk h4
                go_wp2_with fail
                go_roundw
                case rel => exact ⟨done, f, k + 1, by omega, by omega, rfl, by go_num, hO, HC3⟩
                case measure => simp [intOf]; omega
          · have hls := HC2.out.ended (by rw [HZ.out]; omega)
            rw [hls] at H5 H6
            have HL := Lib.hid (show ∀ p ∈ done, p.length ≤ 40 from fun p hp => by
              rw [← hls] at hp
              have := parts_le _ p hp
              rw [List.length_drop, HZ.out] at this; omega)
            have hpos : 0 < done.length := by rw [← hls]; exact (partsL_length _).1
            clear HC2 HC hls
            have hk1 : ¬ (k : Int) ≤ (s.size : Int) := by omega
            obtain ⟨g, cq, rfl, hg1, hg2, hc1, hc2⟩ := hO.form hpos
            have HO := Lib.hid hO
            have hbelow := hO.below
            clear hO
            go_wp2_with fail
            go_loop [7] (fun i => ∃ j : Nat, j ≤ done.length ∧ i = .int .i64 j ∧ Hid ((done.take j).all nameL = true)) (fun i => done.length - (intOf i).toNat)
            case atStart => exact ⟨0, Nat.zero_le _, rfl, rfl⟩
            case round =>
              obtain ⟨j, hj, rfl, HA⟩ := hrel
              by_cases hjt : j < done.length
              · have hc := HO.out.str j hjt
                have HS := Lib.hid (all_take_succ nameL done j hjt)
                have HF := Lib.hid (all_at_no nameL done j hjt)
                have hl1 := HL.out done[j] (List.getElem_mem _)
                generalize done[j] = l at *
                have HR : Calls Tryd.prog 19 #[.string (toB l)] wr fun e w' => e = .returned (.bool (nameL l)) ∧ wr = w' := refname_any (toB l) wr (by rw [toB_size]; unfold maxLen; omega)
                by_cases hn : nameL l = true
                · go_wp2_with (go_at_call 19; refine HR.mono ?_; rintro e w' ⟨rfl, rfl⟩)
                  go_round
                  case rel => exact ⟨j + 1, by omega, by go_num, by show (done.take (j + 1)).all nameL = true; rw [HS.out, HA.out, hn]; rfl⟩
                  case measure => simp [intOf]; omega
                · have hn' : nameL l = false := by simpa using hn
                  have HN := Lib.hid (show okP s.data.toList = false by rw [H5.out, HF.out hn']; simp)
                  clear hn
                  go_wp2_with (go_at_call 19; refine HR.mono ?_; rintro e w' ⟨rfl, rfl⟩)
                  go_ret2
                  exact splitPost_no HN.out hbelow
              · have HT := Lib.hid (show done.all nameL = true by have := HA.out; rwa [List.take_of_length_le (by omega)] at this)
                by_cases h6 : done.length ≤ 5
                · have HE := Lib.hid (show okP s.data.toList = true by rw [H5.out, HT.out, decide_eq_true h6]; rfl)
                  have HG := Lib.hid (show SplitPost w s.data.toList (.returned (.tuple #[.slice (some ⟨g, 0, none⟩) done.length cq, .bool true])) wr from ⟨_, by rw [HE.out], by rw [H6.out, HE.out]; exact HO.out⟩)
                  clear HA HO HL H5 H6
                  go_wp2
                  go_ret2
                  exact HG.out
                · have HN := Lib.hid (show okP s.data.toList = false by rw [H5.out, decide_eq_false h6]; rfl)
                  clear HA HO HL H5 H6
                  go_wp2
                  go_ret2
                  exact splitPost_no HN.out hbelow
      · rw [decide_eq_false h4] at hb
        have hbn : ((s[0].toNat : Int) != 47) = true := by rw [bne, hb]; rfl
        have HN := Lib.hid (okP_head h1l (.inr (.inr (by rw [hh]; simpa using h4))))
        have hb2 : ¬ (s[0].toNat : Int) = 47 := by simpa using hb
        clear h1l hz hh h4
        go_enter Tryd.func18, Tryd.ntmps18
        go_wp2
        go_ret2
        exact splitPost_no HN.out (Below.refl _ _)
    · have HN := Lib.hid (okP_head h1l (.inr (.inl (by omega))))
      clear h1l hz
      go_enter Tryd.func18, Tryd.ntmps18
      go_wp2
      go_ret2
      exact splitPost_no HN.out (Below.refl _ _)
  · have HN := Lib.hid (okP_head h1l (.inl (by omega)))
    clear h1l hz
    go_enter Tryd.func18, Tryd.ntmps18
    go_wp2
    go_ret2
    exact splitPost_no HN.out (Below.refl _ _)
end Go.Proofs.YtjhaihckbmkiaaaDoor
