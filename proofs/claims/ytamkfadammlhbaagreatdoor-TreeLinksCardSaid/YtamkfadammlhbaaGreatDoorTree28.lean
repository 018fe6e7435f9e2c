/- Loose. -/
import Derived.Test.YtamkfadammlhbaaGreatDoorTree27
namespace Go.Proofs.YtamkfadammlhbaaGreatDoor
open Go.RowKit
open Go.ChangeMaps (setBlock)
set_option linter.unusedVariables false
set_option linter.unusedSimpArgs false
set_option maxRecDepth 100000

def looseL (l : List (Int × Nd)) : List Int := (l.filter fun p => p.2.loose).map (·.1)
theorem looseL_snoc (l : List (Int × Nd)) (p : Int × Nd) : looseL (l ++ [p]) = looseL l ++ (if p.2.loose then [p.1] else []) := by
  unfold looseL
  rw [List.filter_append, List.map_append]
  cases h : p.2.loose <;> simp [h]
theorem looseL_len (l : List (Int × Nd)) : (looseL l).length ≤ l.length := by
  unfold looseL
  rw [List.length_map]
  exact List.length_filter_le _ _
theorem info_i : (Tryz.prog.info? 3).map (fun i => (i.zero, i.size, i.bytes)) = some (some (.int .i64 0), 1, 8) := by kernel_rfl
def LooseRel (w : World) (T : Tr) (v : Value) (wr : World) : Prop :=
  ∃ oi o done left, WalksR w w.heap.size T oi o done left wr ∧ Own ⟨w, [(w.heap.size, oi)]⟩ wr [rowI v (looseL done)]
def LoosePost (w : World) (T : Tr) (e : Ending) (w' : World) : Prop := ∃ (v : Value) (zs : List Int), e = .returned v ∧ zs.Perm (looseL T.nodes) ∧ Own w w' [rowI v (zs.mergeSort fun x y => decide (x ≤ y))]
set_option maxHeartbeats 2000000 in
theorem loose_t {w : World} {D : Value → List Int → Prop} {t : Nat} {T : Tr} (H : TreeIn (inW w) D t T) (hn : T.nodes.length ≤ 1000000) :
    Calls Tryz.prog 28 #[.pointer (some ⟨t, 0, none⟩)] w (LoosePost w T) := by
  obtain ⟨i0, hi, hz0, hz1, hz2⟩ := info_parts info_i
  obtain ⟨_, _, c2⟩ := H.at0
  obtain ⟨oi, o, hrun, hW⟩ := Walks.start H
  have hWR : WalksR w w.heap.size T oi o [] T.nodes (w.alloc oi) := ⟨hW.1, hW.2.1, hW.2.2.1, hW.2.2.2.1, hW.2.2.2.2, Nat.le_refl _⟩
  have HW := Lib.hid (show LooseRel w T (.slice none 0 0) (w.alloc oi) from ⟨oi, o, [], T.nodes, hWR, ((Own.start w).newB oi).nil 3 1⟩)
  have HH := Lib.hid H
  clear H hW hWR
  go_enter Tryz.func28, Tryz.ntmps28
  go_wp2_with fail
  go_loopw [3] (fun s wr => LooseRel w T s wr) (fun _ wr => leftN wr T.bm w.heap.size)
  case atStart => exact HW.out
  case round =>
    obtain ⟨oi2, o2, done, left, hW, hO⟩ := hrel
    have hle := hW.left_eq
    have hperm := hW.2.2.2.1
    have hlen2 : done.length ≤ 1000000 := by have := hperm.length_eq; rw [List.length_append] at this; omega
    have hll : (looseL done).length ≤ 1000000 := Nat.le_trans (looseL_len done) hlen2
    rcases hW.next with ⟨rfl, hnx⟩ | ⟨l1, l2, p, oi', w1, rfl, hw1, hnx, hW', hp, hen⟩
    · have hO2 : Own ⟨w, []⟩ wr [rowI u3 (looseL done)] := hO.forget (S' := []) (fun m hm => by cases hm)
      have hs := sort_row hO2 (by omega)
      have hper : (looseL done).Perm (looseL T.nodes) := by
        simp only [List.append_nil] at hperm
        exact (hperm.filter _).map _
      obtain ⟨fa, fc, hf, _, _⟩ := Own.sized (h := (show Own ⟨w, []⟩ wr (⟨3, 1, u3, (looseL done).length, (looseL done).map (Value.int .i64)⟩ :: []) from hO2))
      have HP := Lib.hid hper
      clear hW hle hperm hO hO2 hlen2 hll hper hrun
      subst hf
      go_wp2_with (go_at_call 60; refine hs.mono ?_; rintro e w3 ⟨rfl, hO3⟩; have HO3 := Lib.hid hO3; clear hO3)
      go_ret
      exact ⟨_, _, rfl, HP.out, HO3.out⟩
    · have hr : ∀ oi2, ((w.heap.size, oi2) : Nat × Obj) ∈ [(w.heap.size, oi2)] := fun _ => List.mem_cons_self ..
      have hO1 : Own ⟨w, [(w.heap.size, oi2)]⟩ w1 [rowI u3 (looseL done)] := by rcases hw1 with rfl | rfl; exact hO; exact hO.drew
      have hO2 : Own ⟨w, [(w.heap.size, oi')]⟩ (setBlock w1 w.heap.size oi') [rowI u3 (looseL done)] := by
        have := hO1.setB (hr _) oi'
        simpa [upd] using this
      have hN := (hW'.tree HH.out).node p hp
      have hlo := loose_any hN
      obtain ⟨e1, e2⟩ := hW'.entry
      have hent := hen _ e1 e2
      have hl2 := hW'.left_eq
      have hmeas : (l1 ++ l2).length < leftN wr T.bm w.heap.size := by rw [hle]; simp
      have hsn := looseL_snoc done p
      generalize hw2 : setBlock w1 w.heap.size oi' = w2 at *
      obtain ⟨fa, fc, hf, _, _⟩ := Own.sized (h := (show Own ⟨w, [(w.heap.size, oi')]⟩ w2 (⟨3, 1, u3, (looseL done).length, (looseL done).map (Value.int .i64)⟩ :: []) from hO2))
      have HN := Lib.hid hW'
      have hf' : u3 = .slice fa (looseL done).length fc := hf
      clear hf
      subst hf'
      rcases Bool.eq_false_or_eq_true p.2.loose with hlz | hlz
      · rw [hlz] at hlo hsn
        simp only [if_true] at hsn
        have hb1 : (looseL done).length + 1 ≤ maxLen := by unfold maxLen; omega
        have hb2 : ((looseL done).length + 1) * 8 ≤ 140737488355328 := by omega
        have HO2 := Lib.hid (show Own ⟨w, [(w.heap.size, oi')]⟩ (w2.alloc (.cells #[.int .i64 p.1] 3)) (⟨3, 1, .slice fa (looseL done).length fc, (looseL done).length, (looseL done).map (Value.int .i64)⟩ :: []) from hO2.alloc _)
        have hsrc : Src (w2.alloc (.cells #[.int .i64 p.1] 3)) (.slice (some ⟨w2.heap.size, 0, none⟩) 1 1) 1 [.int .i64 p.1] := by
          refine .inr ⟨_, _, rfl, fun j u hj => ?_, fun u hu => by rw [List.mem_singleton.1 hu]; rfl⟩
          rw [Addr.add_mid, Nat.zero_add, World.cell?_alloc_new]
          simpa using hj
        have Hsrc := Lib.hid hsrc
        have Hb1 := Lib.hid hb1
        have Hb2 := Lib.hid hb2
        have Hm := Lib.hid hmeas
        have Hsn := Lib.hid hsn
        clear hO hO1 hO2 hW hW' hle hperm hN e1 e2 hen hl2 hsn hsrc hb1 hb2 hmeas hll hlen2 hw1 hlz hw2 hrun
        go_wp2_with (first
          | (go_at_call 37; refine hlo.mono ?_; rintro e w' ⟨rfl, rfl⟩)
          | (at_builtin; refine wpList_append_src rfl (.tmp 18) (.tmp 20) 33 rfl (.slice fa (looseL done).length fc) (looseL done).length ((looseL done).map (Value.int .i64)) (.slice (some ⟨w2.heap.size, 0, none⟩) 1 1) 1 [.int .i64 p.1] rfl rfl HO2.out i0 (.int .i64 0) 8 Tryz.underlying33 hi hz0 hz1 hz2 rfl (by decide) Hsrc.out (by simp) Hb1.out Hb2.out ?_))
        intro v4 w4 hO4
        have HR := Lib.hid (show LooseRel w T v4 w4 ∧ leftN w4 T.bm w.heap.size < leftN wr T.bm w.heap.size from by
          have hO5 : Own ⟨w, [(w.heap.size, oi')]⟩ w4 [rowI v4 (looseL (done ++ [p]))] := by
            rw [Hsn.out]
            unfold rowI
            rw [List.length_append, List.map_append]
            exact hO4
          have hB : Below w.heap.size w w4 := hO4.below
          have hW4 : WalksR w w.heap.size T oi' o2 (done ++ [p]) (l1 ++ l2) w4 := ⟨hO4.at (List.mem_cons_self ..), HN.out.2.1, HN.out.2.2.1, HN.out.2.2.2.1, hB, Nat.le_refl _⟩
          exact ⟨⟨oi', o2, _, _, hW4, hO5⟩, by rw [hW4.left_eq]; exact Hm.out⟩)
        obtain ⟨a4, c4, hv4, _, _⟩ := Own.sized (h := hO4)
        subst hv4
        clear hO4 HO2 Hsrc Hb1 Hb2 Hm Hsn HN
        go_wp2_with fail
        go_roundw
        case rel => exact HR.out.1
        case measure => exact HR.out.2
      · rw [hlz] at hlo hsn
        simp only [Bool.false_eq_true, if_false, List.append_nil] at hsn
        have HX := Lib.hid (show LooseRel w T (.slice fa (looseL done).length fc) w2 from ⟨oi', o2, _, _, hW', by rw [hsn]; exact hO2⟩)
        have HL := Lib.hid (show leftN w2 T.bm w.heap.size < leftN wr T.bm w.heap.size by rw [hl2]; exact hmeas)
        clear hO hO1 hO2 hW hW' hle hperm hN e1 e2 hen hl2 hsn hmeas hll hlen2 hw1 hlz hw2 HN hrun
        go_wp2_with (go_at_call 37; refine hlo.mono ?_; rintro e w' ⟨rfl, rfl⟩)
        go_roundw
        case rel => exact HX.out
        case measure => exact HL.out
end Go.Proofs.YtamkfadammlhbaaGreatDoor
