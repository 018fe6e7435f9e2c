/- 'Name' of package path: a range over a string's runes. -/
import Derived.Test.YtjhaihckbmkiaaaDoorPName
import Derived.Deep.LoopGhost
namespace Go.Proofs.YtjhaihckbmkiaaaDoor
open Go.RowKit
set_option linter.unusedVariables false
set_option linter.unusedSimpArgs false

theorem iterPos_at {w : World} {k : Nat} {s : ByteArray} {p : Nat} (h : w.heap[k]? = some (.stringIter s p)) : w.iterPos k = p := by simp [World.iterPos, h]
set_option maxHeartbeats 2000000 in
theorem name_any (s : ByteArray) (w : World) (hs : s.size ≤ maxLen) : Calls Tryd.prog 28 #[.string s] w fun e w' => e = .returned (.bool (nameL s.data.toList)) ∧ Below w.heap.size w w' := by
  unfold maxLen at hs
  rcases name_front s with ⟨h1, h2, h3, h4⟩ | ⟨hn, hh⟩
  · have HN := Lib.hid (name_all h1 h2 h3 h4)
    have h0 : (s.toList == []) = false := by
      rw [Lib.toList_data, beq_eq_false_iff_ne]; intro e; have h5 := Lib.size_eq s; rw [e] at h5; have h6 : s.size = 0 := h5; omega
    have h00 : s.toList ≠ [] := by simpa using h0
    go_enter Tryd.func28, Tryd.ntmps28
    go_wp2
    go_loopw [4] (fun v wr => ∃ pos : Nat, pos ≤ s.size ∧ wr.heap[w.heap.size]? = some (.stringIter s pos) ∧ Below w.heap.size w wr ∧ Hid ((s.data.toList.take pos).all letB = true)) (fun _ wr => s.size - wr.iterPos w.heap.size)
    case atStart => exact ⟨0, Nat.zero_le _, World.iter_heap w s 0, (Below.refl _ _).alloc (Nat.le_refl _) _, rfl⟩
    case round =>
      obtain ⟨pos, hpos, hit, hbw, HA⟩ := hrel
      have hpos0 := iterPos_at hit
      by_cases hp : pos < s.size
      · have hit1 : ∀ q, (wr.iterAt w.heap.size s q).heap[w.heap.size]? = some (.stringIter s q) := fun q => Lib.iterAt_heap wr w.heap.size s pos q hit
        have hbw1 : ∀ q, Below w.heap.size w (wr.iterAt w.heap.size s q) := fun q => Lib.below_iterAt hbw (k := w.heap.size) (Nat.le_refl _) s q
        by_cases ha : (s[pos]'hp).toNat < 128
        · have hnx : ∀ ty, (Instr.next (.pointer (some ⟨w.heap.size, 0, none⟩)) true ty).run Tryd.prog wr = _ := fun ty => Lib.run_next_ascii_at wr w.heap.size s pos ty hit hp ha
          have hbw2 := hbw1 (pos + 1)
          have hit2 := hit1 (pos + 1)
          generalize wr.iterAt w.heap.size s (pos + 1) = W1 at *
          have HS := Lib.hid (take_all_succ s pos hp)
          have HF := Lib.hid (all_no s pos hp)
          have HL := Lib.hid (letR_low s[pos])
          by_cases hl : letB s[pos] = true
          · have HR : letR (s[pos].toNat : Int) = true := by rw [HL.out]; exact hl
            go_wp2_with (go_at_call 37; refine (letter_any _ _).mono ?_; rintro e w' ⟨rfl, rfl⟩)
            go_roundw
            case rel => exact ⟨pos + 1, by omega, hit2, hbw2, by show (s.data.toList.take (pos + 1)).all letB = true; rw [HS.out, HA.out, hl]; rfl⟩
            case measure => rw [iterPos_at hit2, hpos0]; omega
          · have HR : letR (s[pos].toNat : Int) = false := by rw [HL.out]; simpa using hl
            go_wp2_with (go_at_call 37; refine (letter_any _ _).mono ?_; rintro e w' ⟨rfl, rfl⟩)
            go_ret
            exact ⟨by rw [HN.out, HF.out (by simpa using hl)]; rfl, hbw2⟩
        · have hnx : ∀ ty, (Instr.next (.pointer (some ⟨w.heap.size, 0, none⟩)) true ty).run Tryd.prog wr = _ := fun ty => Lib.run_next_any_at wr w.heap.size s pos ty hit hp
          have HR : letR ((Utf8.decode s pos).1 : Int) = false := letR_high _ (by have := (decode_high s pos hp (by omega)).1; omega)
          have hbw2 := hbw1 (pos + (Utf8.decode s pos).2)
          generalize wr.iterAt w.heap.size s (pos + (Utf8.decode s pos).2) = W1 at *
          have HF := Lib.hid (all_no s pos hp (letB_high _ (by omega)))
          generalize (Utf8.decode s pos).1 = r at *
          go_wp2_with (go_at_call 37; refine (letter_any _ _).mono ?_; rintro e w' ⟨rfl, rfl⟩)
          go_ret
          exact ⟨by rw [HN.out, HF.out]; rfl, hbw2⟩
      · have hnx : ∀ ty, (Instr.next (.pointer (some ⟨w.heap.size, 0, none⟩)) true ty).run Tryd.prog wr = _ := fun ty => Lib.run_next_end_at wr w.heap.size s pos ty hit hp
        have HT := Lib.hid (show s.data.toList.take pos = s.data.toList from List.take_of_length_le (by rw [← Lib.size_eq]; omega))
        go_wp2
        go_ret
        exact ⟨by rw [HN.out, ← HT.out, HA.out]; rfl, hbw⟩
  · rw [hn]
    have h0 : s.toList = [] ∧ (s.toList == []) = true ∨ s.toList ≠ [] ∧ (s.toList == []) = false ∧ 1 ≤ s.size := by
      by_cases h5 : s.toList = []
      · exact .inl ⟨h5, beq_iff_eq.2 h5⟩
      · refine .inr ⟨h5, beq_eq_false_iff_ne.2 h5, ?_⟩
        rw [Lib.toList_data] at h5
        rw [Lib.size_eq]
        exact List.length_pos_iff.2 h5
    have hz : s.size = s.toList.length := by rw [Lib.toList_data]; exact Lib.size_eq s
    have HZ := Lib.hid hz
    clear hz
    rcases h0 with ⟨h5, h6⟩ | ⟨h5, h6, h7⟩
    · go_enter Tryd.func28, Tryd.ntmps28
      go_wp2
      go_ret
      exact ⟨rfl, Below.refl _ _⟩
    · by_cases h8 : (s.toList == [46]) = true
      · have h8' := beq_iff_eq.1 h8
        go_enter Tryd.func28, Tryd.ntmps28
        go_wp2
        go_ret
        exact ⟨rfl, Below.refl _ _⟩
      · have h8a : (s.toList == [46]) = false := by simpa using h8
        by_cases h9 : (s.toList == [46, 46]) = true
        · have h9' := beq_iff_eq.1 h9
          clear h8
          go_enter Tryd.func28, Tryd.ntmps28
          go_wp2
          go_ret
          exact ⟨rfl, Below.refl _ _⟩
        · have h9a : (s.toList == [46, 46]) = false := by simpa using h9
          have h10 : 12 < s.size := by
            rcases hh with h | h | ⟨h, h'⟩ | ⟨h, h', h''⟩
            · omega
            · exact h
            · rw [h8a] at h; cases h
            · rw [h9a] at h; cases h
          clear h8 h9 hh
          go_enter Tryd.func28, Tryd.ntmps28
          go_wp2
          go_ret
          exact ⟨rfl, Below.refl _ _⟩
end Go.Proofs.YtjhaihckbmkiaaaDoor
