/- Texts one behind the other, each in a section of its own: what calls make of memory, step by step. -/
import Derived.Test.YtdjoahhcmkedhaaGreatDoorPackTreeWhole7
import Derived.Shelf.SlIter.Nil
import Derived.Shelf.SortM.Plain
import Derived.Shelf.SortM.SortNone
import Derived.Ground.GgzProg
import Derived.Ground.SlgmProg
import Derived.Test.YtdjoahhcmkedhaaGreatDoorProg
import Derived.Lib.SmallJoins
import Derived.Shelf.Vars

/- Loose. -/
section
namespace Go.Proofs.YtdjoahhcmkedhaaGreatDoor
open Go.RowKit
open Go.ChangeMaps (setBlock)
set_option linter.unusedVariables false
set_option linter.unusedSimpArgs false
set_option maxRecDepth 100000

def looseL (l : List (Int × Nd)) : List Int := (l.filter fun p => p.2.loose).map (·.1)
theorem looseL_snoc (l : List (Int × Nd)) (p : Int × Nd) : looseL (l ++ [p]) = looseL l ++ (if p.2.loose then [p.1] else []) := by
  unfold looseL
  rw [List.filter_append, List.map_append]
  cases h : p.2.loose <;> simp [h]
theorem looseL_len (l : List (Int × Nd)) : (looseL l).length ≤ l.length := by
  unfold looseL
  rw [List.length_map]
  exact List.length_filter_le _ _
theorem info_i : (Tryz.prog.info? 3).map (fun i => (i.zero, i.size, i.bytes)) = some (some (.int .i64 0), 1, 8) := by kernel_rfl
def LooseRel (w : World) (T : Tr) (v : Value) (wr : World) : Prop :=
  ∃ oi o done left, WalksR w w.heap.size T oi o done left wr ∧ Own ⟨w, [(w.heap.size, oi)]⟩ wr [rowI v (looseL done)]
def LoosePost (w : World) (T : Tr) (e : Ending) (w' : World) : Prop := ∃ (v : Value) (zs : List Int), e = .returned v ∧ zs.Perm (looseL T.nodes) ∧ Own w w' [rowI v (zs.mergeSort fun x y => decide (x ≤ y))]
set_option maxHeartbeats 2000000 in
theorem loose_t {w : World} {D : Value → List Int → Prop} {t : Nat} {T : Tr} (H : TreeIn (inW w) D t T) (hn : T.nodes.length ≤ 1000000) :
    Calls Tryz.prog 28 #[.pointer (some ⟨t, 0, none⟩)] w (LoosePost w T) := by
  obtain ⟨i0, hi, hz0, hz1, hz2⟩ := info_parts info_i
  obtain ⟨_, _, c2⟩ := H.at0
  obtain ⟨oi, o, hrun, hW⟩ := Walks.start H
  have hWR : WalksR w w.heap.size T oi o [] T.nodes (w.alloc oi) := ⟨hW.1, hW.2.1, hW.2.2.1, hW.2.2.2.1, hW.2.2.2.2, Nat.le_refl _⟩
  have HW := Lib.hid (show LooseRel w T (.slice none 0 0) (w.alloc oi) from ⟨oi, o, [], T.nodes, hWR, ((Own.start w).newB oi).nil 3 1⟩)
  have HH := Lib.hid H
  clear H hW hWR
  go_enter Tryz.func28, Tryz.ntmps28
  go_wp2_with fail
  go_loopw [3] (fun s wr => LooseRel w T s wr) (fun _ wr => leftN wr T.bm w.heap.size)
  case atStart => exact HW.out
  case round =>
    obtain ⟨oi2, o2, done, left, hW, hO⟩ := hrel
    have hle := hW.left_eq
    have hperm := hW.2.2.2.1
    have hlen2 : done.length ≤ 1000000 := by have := hperm.length_eq; rw [List.length_append] at this; omega
    have hll : (looseL done).length ≤ 1000000 := Nat.le_trans (looseL_len done) hlen2
    rcases hW.next with ⟨rfl, hnx⟩ | ⟨l1, l2, p, oi', w1, rfl, hw1, hnx, hW', hp, hen⟩
    · have hO2 : Own ⟨w, []⟩ wr [rowI u3 (looseL done)] := hO.forget (S' := []) (fun m hm => by cases hm)
      have hs := sort_row hO2 (by omega)
      have hper : (looseL done).Perm (looseL T.nodes) := by
        simp only [List.append_nil] at hperm
        exact (hperm.filter _).map _
      obtain ⟨fa, fc, hf, _, _⟩ := Own.sized (h := (show Own ⟨w, []⟩ wr (⟨3, 1, u3, (looseL done).length, (looseL done).map (Value.int .i64)⟩ :: []) from hO2))
      have HP := Lib.hid hper
      clear hW hle hperm hO hO2 hlen2 hll hper hrun
      subst hf
      go_wp2_with (go_at_call 60; refine hs.mono ?_; rintro e w3 ⟨rfl, hO3⟩; have HO3 := Lib.hid hO3; clear hO3)
      go_ret
      exact ⟨_, _, rfl, HP.out, HO3.out⟩
    · have hr : ∀ oi2, ((w.heap.size, oi2) : Nat × Obj) ∈ [(w.heap.size, oi2)] := fun _ => List.mem_cons_self ..
      have hO1 : Own ⟨w, [(w.heap.size, oi2)]⟩ w1 [rowI u3 (looseL done)] := by rcases hw1 with rfl | rfl; exact hO; exact hO.drew
      have hO2 : Own ⟨w, [(w.heap.size, oi')]⟩ (setBlock w1 w.heap.size oi') [rowI u3 (looseL done)] := by
        have := hO1.setB (hr _) oi'
        simpa [upd] using this
      have hN := (hW'.tree HH.out).node p hp
      have hlo := loose_any hN
      obtain ⟨e1, e2⟩ := hW'.entry
      have hent := hen _ e1 e2
      have hl2 := hW'.left_eq
      have hmeas : (l1 ++ l2).length < leftN wr T.bm w.heap.size := by rw [hle]; simp
      have hsn := looseL_snoc done p
      generalize hw2 : setBlock w1 w.heap.size oi' = w2 at *
      obtain ⟨fa, fc, hf, _, _⟩ := Own.sized (h := (show Own ⟨w, [(w.heap.size, oi')]⟩ w2 (⟨3, 1, u3, (looseL done).length, (looseL done).map (Value.int .i64)⟩ :: []) from hO2))
      have HN := Lib.hid hW'
      have hf' : u3 = .slice fa (looseL done).length fc := hf
      clear hf
      subst hf'
      rcases Bool.eq_false_or_eq_true p.2.loose with hlz | hlz
      · rw [hlz] at hlo hsn
        simp only [if_true] at hsn
        have hb1 : (looseL done).length + 1 ≤ maxLen := by unfold maxLen; omega
        have hb2 : ((looseL done).length + 1) * 8 ≤ 140737488355328 := by omega
        have HO2 := Lib.hid (show Own ⟨w, [(w.heap.size, oi')]⟩ (w2.alloc (.cells #[.int .i64 p.1] 3)) (⟨3, 1, .slice fa (looseL done).length fc, (looseL done).length, (looseL done).map (Value.int .i64)⟩ :: []) from hO2.alloc _)
        have hsrc : Src (w2.alloc (.cells #[.int .i64 p.1] 3)) (.slice (some ⟨w2.heap.size, 0, none⟩) 1 1) 1 [.int .i64 p.1] := by
          refine .inr ⟨_, _, rfl, fun j u hj => ?_, fun u hu => by rw [List.mem_singleton.1 hu]; rfl⟩
          rw [Addr.add_mid, Nat.zero_add, World.cell?_alloc_new]
          simpa using hj
        have Hsrc := Lib.hid hsrc
        have Hb1 := Lib.hid hb1
        have Hb2 := Lib.hid hb2
        have Hm := Lib.hid hmeas
        have Hsn := Lib.hid hsn
        clear hO hO1 hO2 hW hW' hle hperm hN e1 e2 hen hl2 hsn hsrc hb1 hb2 hmeas hll hlen2 hw1 hlz hw2 hrun
        go_wp2_with (first
          | (go_at_call 37; refine hlo.mono ?_; rintro e w' ⟨rfl, rfl⟩)
          | (at_builtin; refine wpList_append_src rfl (.tmp 18) (.tmp 20) 33 rfl (.slice fa (looseL done).length fc) (looseL done).length ((looseL done).map (Value.int .i64)) (.slice (some ⟨w2.heap.size, 0, none⟩) 1 1) 1 [.int .i64 p.1] rfl rfl HO2.out i0 (.int .i64 0) 8 Tryz.underlying33 hi hz0 hz1 hz2 rfl (by decide) Hsrc.out (by simp) Hb1.out Hb2.out ?_))
        intro v4 w4 hO4
        have HR := Lib.hid (show LooseRel w T v4 w4 ∧ leftN w4 T.bm w.heap.size < leftN wr T.bm w.heap.size from by
          have hO5 : Own ⟨w, [(w.heap.size, oi')]⟩ w4 [rowI v4 (looseL (done ++ [p]))] := by
            rw [Hsn.out]
            unfold rowI
            rw [List.length_append, List.map_append]
            exact hO4
          have hB : Below w.heap.size w w4 := hO4.below
          have hW4 : WalksR w w.heap.size T oi' o2 (done ++ [p]) (l1 ++ l2) w4 := ⟨hO4.at (List.mem_cons_self ..), HN.out.2.1, HN.out.2.2.1, HN.out.2.2.2.1, hB, Nat.le_refl _⟩
          exact ⟨⟨oi', o2, _, _, hW4, hO5⟩, by rw [hW4.left_eq]; exact Hm.out⟩)
        obtain ⟨a4, c4, hv4, _, _⟩ := Own.sized (h := hO4)
        subst hv4
        clear hO4 HO2 Hsrc Hb1 Hb2 Hm Hsn HN
        go_wp2_with fail
        go_roundw
        case rel => exact HR.out.1
        case measure => exact HR.out.2
      · rw [hlz] at hlo hsn
        simp only [Bool.false_eq_true, if_false, List.append_nil] at hsn
        have HX := Lib.hid (show LooseRel w T (.slice fa (looseL done).length fc) w2 from ⟨oi', o2, _, _, hW', by rw [hsn]; exact hO2⟩)
        have HL := Lib.hid (show leftN w2 T.bm w.heap.size < leftN wr T.bm w.heap.size by rw [hl2]; exact hmeas)
        clear hO hO1 hO2 hW hW' hle hperm hN e1 e2 hen hl2 hsn hmeas hll hlen2 hw1 hlz hw2 HN hrun
        go_wp2_with (go_at_call 37; refine hlo.mono ?_; rintro e w' ⟨rfl, rfl⟩)
        go_roundw
        case rel => exact HX.out
        case measure => exact HL.out
end Go.Proofs.YtdjoahhcmkedhaaGreatDoor
end

/- Contracts of Go's library at this dump: slices.Sorted(maps.Keys(m)). -/
section
namespace Go.Proofs
open Go.Shelf
def Tryz.keys62_ren : Go.Shelf.Ren := ⟨fun | 7 => 62 | 10 => 85 | n => n, fun | 23 => 84 | 26 => 9 | 3 => 3 | 28 => 111 | 0 => 0 | 27 => 110 | 33 => 65 | 4 => 4 | n => n, fun | n => n⟩
theorem Tryz.keys62 : Go.Proofs.SlLaysZ.n7 Tryz.prog Tryz.keys62_ren := {
  mixed := by kernel_rfl
  f7 := ⟨Tryz.f62.name, by decide, Tryz.func62.trans (congrArg some (by kernel_rfl))⟩
  f10 := ⟨Tryz.f85.name, by decide, Tryz.func85.trans (congrArg some (by kernel_rfl))⟩
  t0 := Tryz.underlying0
  a0 := Tryz.isAgg0
  z0 := Tryz.sizeOf0
  v0 := Tryz.zeroValue0
  t4 := Tryz.underlying4
  a4 := Tryz.isAgg4
  z4 := Tryz.sizeOf4
  v4 := Tryz.zeroValue4
  t23 := Tryz.underlying84
  a23 := Tryz.isAgg84
  z23 := Tryz.sizeOf84
  v23 := Tryz.zeroValue84
  t26 := Tryz.underlying9
  a26 := Tryz.isAgg9
  z26 := Tryz.sizeOf9
  v26 := Tryz.zeroValue9
  t27 := Tryz.underlying110
  a27 := Tryz.isAgg110
  z27 := Tryz.sizeOf110
  v27 := Tryz.zeroValue110
  t28 := Tryz.underlying111
  a28 := Tryz.isAgg111
  z28 := Tryz.sizeOf111
  v28 := Tryz.zeroValue111
  t33 := Tryz.underlying65
  a33 := Tryz.isAgg65
  z33 := Tryz.sizeOf65
  v33 := Tryz.zeroValue65 }
def Tryz.sorted61_ren : Go.Shelf.Ren := ⟨fun | 6 => 61 | 8 => 83 | 9 => 84 | 11 => 109 | 13 => 82 | 12 => 110 | 23 => 107 | 24 => 108 | 14 => 122 | 15 => 123 | 16 => 124 | 17 => 125 | 18 => 126 | 19 => 127 | 20 => 128 | 21 => 129 | 22 => 130 | 25 => 137 | 26 => 117 | 27 => 118 | 28 => 138 | 29 => 139 | 30 => 140 | 31 => 149 | n => n, fun | 26 => 9 | 28 => 111 | 24 => 68 | 0 => 0 | 3 => 3 | 37 => 130 | 48 => 129 | 50 => 157 | 4 => 4 | 40 => 149 | 39 => 148 | 45 => 44 | 5 => 5 | 9 => 9 | 51 => 164 | 55 => 168 | 57 => 180 | 58 => 181 | 33 => 65 | n => n, fun | n => n⟩
theorem Tryz.sorted61 : Go.Proofs.SlLaysZ.n6 Tryz.prog Tryz.sorted61_ren := {
  mixed := by kernel_rfl
  f6 := ⟨Tryz.f61.name, by decide, Tryz.func61.trans (congrArg some (by kernel_rfl))⟩
  f8 := ⟨Tryz.f83.name, by decide, Tryz.func83.trans (congrArg some (by kernel_rfl))⟩
  f11 := ⟨Tryz.f109.name, by decide, Tryz.func109.trans (congrArg some (by kernel_rfl))⟩
  t0 := Tryz.underlying0
  a0 := Tryz.isAgg0
  z0 := Tryz.sizeOf0
  v0 := Tryz.zeroValue0
  t24 := Tryz.underlying68
  a24 := Tryz.isAgg68
  z24 := Tryz.sizeOf68
  v24 := Tryz.zeroValue68
  t26 := Tryz.underlying9
  a26 := Tryz.isAgg9
  z26 := Tryz.sizeOf9
  v26 := Tryz.zeroValue9
  t28 := Tryz.underlying111
  a28 := Tryz.isAgg111
  z28 := Tryz.sizeOf111
  v28 := Tryz.zeroValue111
  i26 := by kernel_rfl }
def Tryz.sort84_ren : Go.Shelf.Ren := ⟨fun | 6 => 84 | 8 => 82 | 9 => 110 | 19 => 107 | 20 => 108 | 21 => 122 | 22 => 123 | 23 => 124 | 24 => 125 | 25 => 126 | 26 => 127 | 27 => 128 | 28 => 129 | 29 => 130 | 36 => 137 | 31 => 117 | 32 => 118 | 37 => 138 | 38 => 139 | 39 => 140 | 41 => 149 | n => n, fun | 27 => 68 | 29 => 9 | 3 => 3 | 32 => 130 | 26 => 68 | 0 => 0 | 44 => 129 | 46 => 157 | 4 => 4 | 36 => 149 | 35 => 148 | 41 => 44 | 5 => 5 | 9 => 9 | 53 => 164 | 57 => 168 | 63 => 180 | 64 => 181 | n => n, fun | n => n⟩
theorem Tryz.sort84 : Go.Proofs.SlLaysM.n6 Tryz.prog Tryz.sort84_ren := {
  mixed := by kernel_rfl
  f6 := ⟨Tryz.f84.name, by decide, Tryz.func84.trans (congrArg some (by kernel_rfl))⟩
  f8 := Tryz.func82.trans (congrArg some (by kernel_rfl))
  f9 := ⟨Tryz.f110.name, by decide, Tryz.func110.trans (congrArg some (by kernel_rfl))⟩
  f19 := Tryz.func107.trans (congrArg some (by kernel_rfl))
  f20 := Tryz.func108.trans (congrArg some (by kernel_rfl))
  f21 := ⟨Tryz.f122.name, by decide, Tryz.func122.trans (congrArg some (by kernel_rfl))⟩
  f22 := ⟨Tryz.f123.name, by decide, Tryz.func123.trans (congrArg some (by kernel_rfl))⟩
  f23 := ⟨Tryz.f124.name, by decide, Tryz.func124.trans (congrArg some (by kernel_rfl))⟩
  f24 := ⟨Tryz.f125.name, by decide, Tryz.func125.trans (congrArg some (by kernel_rfl))⟩
  f25 := ⟨Tryz.f126.name, by decide, Tryz.func126.trans (congrArg some (by kernel_rfl))⟩
  f26 := ⟨Tryz.f127.name, by decide, Tryz.func127.trans (congrArg some (by kernel_rfl))⟩
  f27 := ⟨Tryz.f128.name, by decide, Tryz.func128.trans (congrArg some (by kernel_rfl))⟩
  f28 := ⟨Tryz.f129.name, by decide, Tryz.func129.trans (congrArg some (by kernel_rfl))⟩
  f29 := ⟨Tryz.f130.name, by decide, Tryz.func130.trans (congrArg some (by kernel_rfl))⟩
  f31 := Tryz.func117.trans (congrArg some (by kernel_rfl))
  f32 := Tryz.func118.trans (congrArg some (by kernel_rfl))
  f36 := ⟨Tryz.f137.name, by decide, Tryz.func137.trans (congrArg some (by kernel_rfl))⟩
  f37 := ⟨Tryz.f138.name, by decide, Tryz.func138.trans (congrArg some (by kernel_rfl))⟩
  f38 := ⟨Tryz.f139.name, by decide, Tryz.func139.trans (congrArg some (by kernel_rfl))⟩
  f39 := ⟨Tryz.f140.name, by decide, Tryz.func140.trans (congrArg some (by kernel_rfl))⟩
  f41 := ⟨Tryz.f149.name, by decide, Tryz.func149.trans (congrArg some (by kernel_rfl))⟩
  t0 := Tryz.underlying0
  a0 := Tryz.isAgg0
  z0 := Tryz.sizeOf0
  v0 := Tryz.zeroValue0
  t3 := Tryz.underlying3
  a3 := Tryz.isAgg3
  z3 := Tryz.sizeOf3
  v3 := Tryz.zeroValue3
  t4 := Tryz.underlying4
  a4 := Tryz.isAgg4
  z4 := Tryz.sizeOf4
  v4 := Tryz.zeroValue4
  t5 := Tryz.underlying5
  a5 := Tryz.isAgg5
  z5 := Tryz.sizeOf5
  v5 := Tryz.zeroValue5
  t9 := Tryz.underlying9
  a9 := Tryz.isAgg9
  z9 := Tryz.sizeOf9
  v9 := Tryz.zeroValue9
  t26 := Tryz.underlying68
  a26 := Tryz.isAgg68
  z26 := Tryz.sizeOf68
  v26 := Tryz.zeroValue68
  t27 := Tryz.underlying68
  a27 := Tryz.isAgg68
  z27 := Tryz.sizeOf68
  v27 := Tryz.zeroValue68
  t29 := Tryz.underlying9
  a29 := Tryz.isAgg9
  z29 := Tryz.sizeOf9
  v29 := Tryz.zeroValue9
  t32 := Tryz.underlying130
  a32 := Tryz.isAgg130
  z32 := Tryz.sizeOf130
  v32 := Tryz.zeroValue130
  t35 := Tryz.underlying148
  a35 := Tryz.isAgg148
  z35 := Tryz.sizeOf148
  v35 := Tryz.zeroValue148
  t36 := Tryz.underlying149
  a36 := Tryz.isAgg149
  z36 := Tryz.sizeOf149
  v36 := Tryz.zeroValue149
  t41 := Tryz.underlying44
  a41 := Tryz.isAgg44
  z41 := Tryz.sizeOf44
  v41 := Tryz.zeroValue44
  t44 := Tryz.underlying129
  a44 := Tryz.isAgg129
  z44 := Tryz.sizeOf129
  v44 := Tryz.zeroValue129
  t46 := Tryz.underlying157
  a46 := Tryz.isAgg157
  z46 := Tryz.sizeOf157
  v46 := Tryz.zeroValue157
  t53 := Tryz.underlying164
  a53 := Tryz.isAgg164
  z53 := Tryz.sizeOf164
  v53 := Tryz.zeroValue164
  t57 := Tryz.underlying168
  a57 := Tryz.isAgg168
  z57 := Tryz.sizeOf168
  v57 := Tryz.zeroValue168
  t63 := Tryz.underlying180
  a63 := Tryz.isAgg180
  z63 := Tryz.sizeOf180
  v63 := Tryz.zeroValue180
  t64 := Tryz.underlying181
  a64 := Tryz.isAgg181
  z64 := Tryz.sizeOf181
  v64 := Tryz.zeroValue181 }
open Go.RowKit Go.Maps Go.Sort Go.Shelf
theorem Tryz.sorts61 (m : Nat) : AnyZ.SortsIn Tryz.prog Tryz.sorted61_ren Fence.wide m :=
  ⟨fun blk off cap ss W hH hblk hsz => callsIn_wide.2 (AnyM.slices_Sort_string Tryz.sort84 blk off cap ss W hH hblk hsz),
   fun p cap W => callsIn_wide.2 (AnyM.slices_Sort_string_none Tryz.sort84 p cap W)⟩
theorem Tryz.maps_Keys_62 (mb : Option Nat) (W : World) : CallsIn Fence.wide 5 Tryz.prog 62 #[.map mb] W fun e w' => e = .returned (.func (.func 85) #[] #[.pointer (some ⟨W.heap.size, 0, none⟩)]) ∧ w' = W.alloc (.cells #[.map mb] 84) :=
  AnyZ.keys_in Tryz.keys62 Fence.wide 5 trivial rfl mb W
set_option maxHeartbeats 1000000 in
theorem Tryz.slices_Sorted_keys_61_62 {H : Type} (b nn : Nat) (D0 : DataW H) (R : Value → Option (DataW H × List MemPlace)) (w : World) (hown : w.ownsMap Tryz.prog 9 R b nn D0) (hmax : Maps.size D0 ≤ maxLen) (hbytes : Maps.size D0 * 16 ≤ 140737488355328) :
    CallsIn Fence.wide 5 Tryz.prog 61 #[.func (.func 85) #[] #[.pointer (some ⟨w.heap.size, 0, none⟩)]] (w.alloc (.cells #[.map (some b)] 84)) fun e w' => ∃ (v : Value) (ss : List (List UInt8)), e = .returned v ∧ ss.Perm (strKeys D0) ∧
      w'.ownsRow (w.alloc (.cells #[.map (some b)] 84)).heap.size 9 1 v ss.length ((ss.mergeSort (fun x y => decide (x ≤ y))).map encStr) ∧ (v = .slice none 0 0 ↔ ss = []) ∧ Below (w.alloc (.cells #[.map (some b)] 84)).heap.size (w.alloc (.cells #[.map (some b)] 84)) w' := by
  have hbl := hown.lt
  have hseq : SeqGives Fence.wide 2 Tryz.prog 85 #[.pointer (some ⟨w.heap.size, 0, none⟩)] encStr (fun ss => ss.Perm (strKeys D0)) (Maps.size D0) (w.alloc (.cells #[.map (some b)] 84)) :=
    AnyZ.keys_gives (ρ := Tryz.keys62_ren) { Tryz.keys62 with } Fence.wide _ trivial rfl (by omega) w.heap.size b nn D0 _ (by simp) (by simp) (by
      obtain ⟨es, clock, hb, Ft, hs, hD⟩ := hown
      exact ⟨es, clock, (Below.heap_alloc _ _ b hbl).trans hb, Ft, hs, hD⟩)
  exact AnyZ.sorted_in Tryz.sorted61 Fence.wide 5 trivial trivial trivial trivial rfl (by omega) (Tryz.sorts61 _) (enters_of Tryz.func84 (by kernel_rfl) rfl) 85 #[.pointer (some ⟨w.heap.size, 0, none⟩)] trivial (enters_of Tryz.func85 (by kernel_rfl) rfl) _ _ hmax hbytes _ hseq
set_option maxHeartbeats 1000000 in
theorem Tryz.slices_Sorted_keys_nil_61_62 (w : World) :
    CallsIn Fence.wide 5 Tryz.prog 61 #[.func (.func 85) #[] #[.pointer (some ⟨w.heap.size, 0, none⟩)]] (w.alloc (.cells #[.map none] 84)) fun e w' => ∃ (v : Value) (ss : List (List UInt8)), e = .returned v ∧ ss = [] ∧
      w'.ownsRow (w.alloc (.cells #[.map none] 84)).heap.size 9 1 v ss.length ((ss.mergeSort (fun x y => decide (x ≤ y))).map encStr) ∧ (v = .slice none 0 0 ↔ ss = []) ∧ Below (w.alloc (.cells #[.map none] 84)).heap.size (w.alloc (.cells #[.map none] 84)) w' := by
  have hseq : SeqGives Fence.wide 2 Tryz.prog 85 #[.pointer (some ⟨w.heap.size, 0, none⟩)] encStr (fun ss : List (List UInt8) => ss = []) 0 (w.alloc (.cells #[.map none] 84)) :=
    AnyZ.keys_gives_nil (ρ := Tryz.keys62_ren) { Tryz.keys62 with } Fence.wide _ trivial rfl w.heap.size _ (by simp) (by simp)
  exact AnyZ.sorted_in Tryz.sorted61 Fence.wide 5 trivial trivial trivial trivial rfl (by omega) (Tryz.sorts61 _) (enters_of Tryz.func84 (by kernel_rfl) rfl) 85 #[.pointer (some ⟨w.heap.size, 0, none⟩)] trivial (enters_of Tryz.func85 (by kernel_rfl) rfl) _ 0 (Nat.zero_le _) (by omega) _ hseq
end Go.Proofs
end

/- A directory's names in order: what the kit's contracts ask of a map. -/
section
namespace Go.Proofs.YtdjoahhcmkedhaaGreatDoor
open Go.RowKit Go.Maps
open Go.ChangeMaps (setBlock)
open Go.WideElems (Fit rd rg)
set_option linter.unusedVariables false
set_option linter.unusedSimpArgs false
set_option maxRecDepth 100000

abbrev noR : Value → Option (DataW Unit × List MemPlace) := fun _ => some (.nil, [])
def sOf (v : Value) : List UInt8 := match v with
  | .string s => s.data.toList
  | _ => []
theorem owns_of {w : World} {b : Nat} {o : Obj} {kids : List (ByteArray × Int)} (h : MapO KS o (kidsV kids)) (hb : w.heap[b]? = some o) (hd : (kids.map (·.1)).Nodup) (hs : ∀ p ∈ kids, p.1.size ≤ maxLen) (hn : kids.length ≤ maxLen) :
    ∃ D0 : DataW Unit, w.ownsMap Tryz.prog 9 noR b kids.length D0 ∧ (strKeys D0).Perm (kids.map fun p => p.1.data.toList) ∧ Maps.size D0 = kids.length := by
  obtain ⟨es, clock, rfl, h1, h2, h3⟩ := h
  have hk : es.toList.map (·.key) = kids.map fun p => KS p.1 := by
    have := congrArg (List.map (·.1)) h1
    rw [List.map_map, List.map_map] at this
    rw [show es.toList.map (·.key) = es.toList.map ((fun p : Value × Value => p.1) ∘ fun e => (e.key, e.val)) from rfl, this]
    unfold kidsV
    rw [List.map_map]; rfl
  have hsz : es.size = kids.length := by
    have := congrArg List.length hk
    simpa using this
  have hkey : ∀ x ∈ es.toList, ∃ s : ByteArray, x.key = .string s ∧ s.size ≤ maxLen := fun x hx => by
    have : x.key ∈ kids.map fun p => KS p.1 := by rw [← hk]; exact List.mem_map.2 ⟨x, hx, rfl⟩
    obtain ⟨p, hp, e⟩ := List.mem_map.1 this
    exact ⟨p.1, e.symm, hs p hp⟩
  have hrd : ∀ x ∈ es.toList, rd Tryz.prog 9 noR x = some (.string (sOf x.key), .nil) := fun x hx => by
    obtain ⟨s, e, hs⟩ := hkey x hx
    unfold rd
    rw [e, Go.WideMaps.keyOf_string_mk Tryz.underlying9 hs]; rfl
  refine ⟨_, ⟨es, clock, hb, ⟨by omega, ⟨h3, h2, ?_⟩, fun x hx => ⟨_, hrd x hx⟩⟩, by omega, rfl⟩, ?_, ?_⟩
  · rw [hk]
    have : (kids.map fun p => KS p.1) = (kids.map (·.1)).map KS := by rw [List.map_map]; rfl
    rw [this]
    exact hd.map (f := KS) (fun a b hne e => hne (by injection e))
  · have hp := (Go.WideShapes.sorted_perm (es.toList.map (rg Tryz.prog 9 noR))).map (fun p => strOf p.1)
    refine List.Perm.trans hp ?_
    rw [List.map_map]
    have e1 : es.toList.map ((fun p : Lit × DataW Unit => strOf p.1) ∘ rg Tryz.prog 9 noR) = es.toList.map fun x => sOf x.key := List.map_congr_left fun x hx => by
      simp only [Function.comp, rg, hrd x hx]; rfl
    rw [e1, show (es.toList.map fun x => sOf x.key) = (es.toList.map (·.key)).map sOf by rw [List.map_map]; rfl, hk, List.map_map]
    exact List.Perm.refl _
  · rw [Maps.size_eq, Go.length_sorted, List.length_map]
    simpa using hsz
end Go.Proofs.YtdjoahhcmkedhaaGreatDoor
end

/- List, of a directory. -/
section
namespace Go.Proofs.YtdjoahhcmkedhaaGreatDoor
open Go.RowKit Go.Maps Go.Shelf
open Go.ChangeMaps (setBlock)
set_option linter.unusedVariables false
set_option linter.unusedSimpArgs false
set_option maxRecDepth 100000

set_option maxHeartbeats 2000000 in
theorem list_dir {w : World} {D : Value → List Int → Prop} {t : Nat} {T : Tr} (H : TreeIn (inW w) D t T) (G : Good T) (s : ByteArray) (hs : s.size ≤ maxLen) (hm : Mx w) {n : Nd} (hn : standT T s.data.toList = some n) {k : Nat} (hk : n.k = some k)
    (hnd : (n.kids.map (·.1)).Nodup) (hkz : ∀ p ∈ n.kids, p.1.size ≤ maxLen) (hlen : n.kids.length ≤ 1000000) :
    Calls Tryz.prog 29 #[.pointer (some ⟨t, 0, none⟩), .string s] w fun e w' => ∃ (v : Value) (ss : List (List UInt8)), e = .returned (.tuple #[v, .int .i64 0]) ∧ ss.Perm (n.kids.map fun p => p.1.data.toList) ∧
      w'.ownsRow w.heap.size 9 1 v ss.length ((ss.mergeSort (fun x y => decide (x ≤ y))).map encStr) ∧ Below w.heap.size w w' := by
  have hst := stands_any H G s hs hm
  rw [hn] at hst
  dsimp only [ptrOf] at hst
  obtain ⟨i, hi⟩ := stand_mem hn
  have hgen : ∀ w2, Below w.heap.size w w2 → Calls Tryz.prog 58 #[.pointer (some ⟨n.b, 0, none⟩)] w2 (fun e w' => e = .returned (.bool true) ∧ w2 = w') ∧ w2.cell? ⟨n.b, 0, none⟩ = some (.map (some k)) ∧
      ∃ D0 : DataW Unit, w2.ownsMap Tryz.prog 9 noR k n.kids.length D0 ∧ (strKeys D0).Perm (n.kids.map fun p => p.1.data.toList) ∧ Maps.size D0 = n.kids.length := by
    intro w2 hb
    have hN := (H.later hb).node _ hi
    have hd := dir_any hN
    rw [show n.k.isSome = true by rw [hk]; rfl] at hd
    have h0 := hN.at0.1
    simp only [hk] at h0
    obtain ⟨o, h1, h2⟩ := hN.kid k hk
    exact ⟨hd, h0, owns_of h2 h1 hnd hkz (by unfold maxLen; omega)⟩
  have hml : n.kids.length ≤ maxLen := by unfold maxLen; omega
  have hby : n.kids.length * 16 ≤ 140737488355328 := by omega
  clear H G hn hi hk hnd hkz
  refine (callsIn_wide (n := 6)).1 ?_
  have hfA : Fence.wide.fn 57 := trivial
  have hfB : Fence.wide.fn 58 := trivial
  have hfK : Fence.wide.fn 62 := trivial
  have hfS : Fence.wide.fn 61 := trivial
  refine callsIn_of_wp Tryz.func29 rfl trivial ?_ rfl
  simp only [Tryz.ntmps29, List.size_toArray, List.length_cons, List.length_nil, Nat.reduceAdd, Nat.reduceSub, Array.replicate_succ, Array.replicate_zero, List.push_toArray, List.append_toArray, List.nil_append, List.cons_append]
  gi_wp2_with (first
    | (gi_at_call 57; refine (callsIn_wide.2 hst).mono ?_; rintro e w2 ⟨rfl, hb2⟩; obtain ⟨hd2, n0, D0, hown, hperm, hsz0⟩ := hgen w2 hb2)
    | (gi_at_call 58; refine (callsIn_wide.2 hd2).mono ?_; rintro e w' ⟨rfl, rfl⟩)
    | (gi_at_call 62; refine (Tryz.maps_Keys_62 _ _).mono ?_; rintro e w' ⟨rfl, rfl⟩)
    | (gi_at_call 61; refine (Tryz.slices_Sorted_keys_61_62 k n.kids.length D0 noR w2 hown (by rw [hsz0]; exact hml) (by rw [hsz0]; exact hby)).mono ?_; rintro e w' ⟨v, ss, rfl, hS, hrow, hnil, hb⟩))
  have hle : w.heap.size ≤ (w2.alloc (.cells #[.map (some k)] 84)).heap.size := by have := hb2.size; simp; omega
  go_ret2
  exact ⟨v, ss, rfl, hS.trans hperm, ownsRow_base hrow hle, (hb2.alloc hb2.size _).trans (hb.mono hle)⟩
end Go.Proofs.YtdjoahhcmkedhaaGreatDoor
end

/- Do of operations that the caller has written out; what is asked of a tree behind it. -/
section
namespace Go.Proofs.YtdjoahhcmkedhaaGreatDoor
open Go.RowKit
open Go.ChangeMaps (setBlock)
set_option linter.unusedVariables false
set_option linter.unusedSimpArgs false
set_option maxRecDepth 100000

theorem flat4 (ls : List (List Value)) (h : ∀ l ∈ ls, l.length = 4) (i : Nat) (hi : i < ls.length) (j : Nat) (hj : j < 4) : ls.flatten[i * 4 + j]? = ls[i][j]? := by
  induction ls generalizing i with
  | nil => simp at hi
  | cons l r ih =>
    have hl := h l (List.mem_cons_self ..)
    rw [List.flatten_cons]
    cases i with
    | zero =>
      rw [Nat.zero_mul, Nat.zero_add, List.getElem?_append_left (by omega)]; rfl
    | succ i =>
      rw [List.getElem?_append_right (by omega), show (i + 1) * 4 + j - l.length = i * 4 + j by omega]
      exact ih (fun x hx => h x (List.mem_cons_of_mem _ hx)) i (by simpa using hi)
theorem OpIn.mono {w0 : World} {S S' : Blocks} {L : List Rw} {o : OpD} {x : OpE} (h : OpIn w0 S L o x) (hs : ∀ b x, (b, x) ∈ S → (b, x) ∈ S') : OpIn w0 S' L o x :=
  ⟨h.kind, h.l, h.l2, h.p, h.q, h.n, h.data.mono hs (fun _ _ _ h => h) (fun _ h => h)⟩
/-- A tree of the law's, as plain data. -/
def Live (w0 : World) (L : List Rw) (t : Nat) (E : Et) (w : World) : Prop := ∃ S L' T, Own ⟨w0, S⟩ w L' ∧ (∀ x ∈ L, x ∈ L') ∧ Tree S (Pc L') t T ∧ Rep T E
theorem do_lit {w0 w : World} {S : Blocks} {L : List Rw} {t : Nat} {T : Tr} {E E' : Et} (hO : Own ⟨w0, S⟩ w L) (H : Tree S (Pc L) t T) (hR : Rep T E) (hmx : Mx w0) (ops : List OpD) (xs : List OpE) (C : Array Value) (hC : C.toList = (ops.map OpD.cells).flatten) (cap : Nat) (hlen : xs.length = ops.length) (hn : ops.length ≤ 1000000)
    (hin : ∀ i (h : i < ops.length), OpIn w0 S L ops[i] (xs[i]'(by omega)))
    (hE : doAllE E xs = some E') (h1 : 1 ≤ E.next) (h2 : E.next ≤ 900000000) (h3 : E'.nodes.length ≤ 128) (h4 : (sumE E'.nodes : Int) ≤ E'.quota) (h5 : sumE E'.nodes ≤ 1000000000) :
    Calls Tryz.prog 14 #[.pointer (some ⟨t, 0, none⟩), .slice (some ⟨w.heap.size, 0, none⟩) ops.length cap] (w.alloc (.cells C 38)) fun e w' => e = .returned (.int .i64 0) ∧ Live w0 L t E' w' := by
  have hO1 := hO.newB (.cells C 38)
  have H1 := H.mono (D2 := Pc L) (S2 := (w.heap.size, .cells C 38) :: S) (fun b x _ hx => List.mem_cons_of_mem _ hx) (fun _ _ h => h)
  refine (Do_ok hO1 H1 hR hmx w.heap.size 0 ops xs cap hlen hn (fun w' S' L' k1 k2 i hi => ?_) (fun i hi => (hin i hi).mono fun b x hb => List.mem_cons_of_mem _ hb) hE h1 h2 h3 h4 h5).mono fun e w' hd => ?_
  · intro j v hv
    have hc := k1.cellB (k2 _ _ (List.mem_cons_self ..)) (0 + i * 4 + j)
    rw [hc]
    have hj : j < 4 := by
      have := (List.getElem?_eq_some_iff.1 hv).1
      simpa [OpD.cells, opL] using this
    rw [← Array.getElem?_toList, hC, Nat.zero_add, flat4 _ (fun l hl => by
      obtain ⟨o, _, rfl⟩ := List.mem_map.1 hl
      rfl) i (by simpa using hi) j hj, List.getElem_map]
    exact hv
  · obtain ⟨S', L', T', e1, e2, e3, e4, e5, e6⟩ := hd
    exact ⟨e1, S', L', T', e2, e3, e4, e6⟩
end Go.Proofs.YtdjoahhcmkedhaaGreatDoor
end

/- What is asked of a tree, against the plain state. -/
section
namespace Go.Proofs.YtdjoahhcmkedhaaGreatDoor
open Go.RowKit
open Go.ChangeMaps (setBlock)
set_option linter.unusedVariables false
set_option linter.unusedSimpArgs false
set_option maxRecDepth 100000

theorem Live.later {w0 w w' : World} {L : List Rw} {t : Nat} {E : Et} (h : Live w0 L t E w) (hb : Below w.heap.size w w') : Live w0 L t E w' := by
  obtain ⟨S, L', T, h1, h2, h3, h4⟩ := h
  exact ⟨S, L', T, h1.later hb, h2, h3, h4⟩
theorem Live.join {w0 w w' : World} {L M : List Rw} {t : Nat} {E : Et} (h : Live w0 L t E w) (hM : Own w w' M) : Live w0 (M ++ L) t E w' := by
  obtain ⟨S, L', T, h1, h2, h3, h4⟩ := h
  refine ⟨S, M ++ L', T, h1.join hM, fun x hx => ?_, h3.mono (fun b x _ hx => hx) (fun v zs h => h.mono fun r hr => List.mem_append_right _ hr), h4⟩
  rcases List.mem_append.1 hx with hx | hx
  · exact List.mem_append_left _ hx
  · exact List.mem_append_right _ (h2 x hx)
theorem Live.less {w0 w : World} {L M : List Rw} {t : Nat} {E : Et} (h : Live w0 L t E w) (hs : ∀ x ∈ M, x ∈ L) : Live w0 M t E w := by
  obtain ⟨S, L', T, h1, h2, h3, h4⟩ := h
  exact ⟨S, L', T, h1, fun x hx => h2 x (hs x hx), h3, h4⟩
theorem Live.mx {w0 w : World} {L : List Rw} {t : Nat} {E : Et} (h : Live w0 L t E w) (hm : Mx w0) : Mx w := by
  obtain ⟨S, L', T, h1, _⟩ := h
  exact hm.later h1.below
theorem Live.by {w0 w : World} {L : List Rw} {t : Nat} {E : Et} (h : Live w0 L t E w) {v : Value} {zs : List Int} (hr : rowU v zs ∈ L) (hz : Byts zs) : By w v zs := by
  obtain ⟨S, L', T, h1, h2, _⟩ := h
  exact (h1.only (h2 _ hr)).by hz
def standE (E : Et) (l : List UInt8) : Option ENd := (if okP l then walkE E 1 (namesL l) else none).bind fun i => look E.nodes i
theorem Rep.stand {T : Tr} {E : Et} (h : Rep T E) (hd : (T.nodes.map (·.1)).Nodup) (l : List UInt8) : (standT T l).map Nd.er = standE E l := by
  unfold standT standE findT
  cases hk : okP l with
  | false => rfl
  | true =>
    simp only [if_true]
    rw [h.walk hd]
    cases walkE E 1 (namesL l) with
    | none => rfl
    | some i => exact h.look hd i
theorem live_read {w0 w : World} {L : List Rw} {t : Nat} {E : Et} (h : Live w0 L t E w) (hm : Mx w0) (s : ByteArray) (hs : s.size ≤ maxLen) {f : ENd} (hf : standE E s.data.toList = some f) (hd : f.dir = false) (hl : f.data.length ≤ 140737488355328) :
    Calls Tryz.prog 26 #[.pointer (some ⟨t, 0, none⟩), .string s] w fun e w' => ∃ v, e = .returned (.tuple #[v, .int .i64 0]) ∧ Live w0 (rowU v f.data :: L) t E w' := by
  have hmw := h.mx hm
  have hh := h
  obtain ⟨S, L', T, h1, h2, h3, h4⟩ := h
  have hst := h4.stand h3.good.keys s.data.toList
  rw [hf] at hst
  cases hn : standT T s.data.toList with
  | none => rw [hn] at hst; cases hst
  | some n =>
    rw [hn] at hst
    have e : n.er = f := by injection hst
    have hk : n.k = none := by
      have : n.k.isSome = false := (congrArg ENd.dir e).trans hd
      cases hk : n.k with
      | none => rfl
      | some k => rw [hk] at this; cases this
    have hda : n.data = f.data := congrArg ENd.data e
    refine (read_file h1 h3 s hs hmw hn hk (by rw [hda]; exact hl)).mono fun e w' hr => ?_
    obtain ⟨v, e1, e2⟩ := hr
    rw [hda] at e2
    exact ⟨v, e1, hh.join e2⟩
theorem live_used {w0 w : World} {L : List Rw} {t : Nat} {E : Et} (h : Live w0 L t E w) (hu : sumE E.nodes ≤ 1000000000) :
    Calls Tryz.prog 25 #[.pointer (some ⟨t, 0, none⟩)] w fun e w' => e = .returned (.int .i64 (sumE E.nodes : Nat)) ∧ Live w0 L t E w' := by
  have hh := h
  obtain ⟨S, L', T, h1, h2, h3, h4⟩ := h
  have := used_any (h3.at_.inWorld h1) (by rw [h4.sum]; exact hu)
  rw [h4.sum] at this
  exact this.mono fun e w' hr => ⟨hr.1, hh.later hr.2⟩
theorem live_nodes {w0 w : World} {L : List Rw} {t : Nat} {E : Et} (h : Live w0 L t E w) :
    Calls Tryz.prog 24 #[.pointer (some ⟨t, 0, none⟩)] w fun e w' => e = .returned (.int .i64 (E.nodes.length : Int)) ∧ w = w' := by
  obtain ⟨S, L', T, h1, h2, h3, h4⟩ := h
  have := nodes_any (h3.at_.inWorld h1)
  rwa [h4.count] at this
theorem live_dir {w0 w : World} {L : List Rw} {t : Nat} {E : Et} (h : Live w0 L t E w) (hm : Mx w0) (s : ByteArray) (hs : s.size ≤ maxLen) :
    Calls Tryz.prog 27 #[.pointer (some ⟨t, 0, none⟩), .string s] w fun e w' => e = .returned (.bool (match standE E s.data.toList with | some n => n.dir | none => false)) ∧ Live w0 L t E w' := by
  have hmw := h.mx hm
  have hh := h
  obtain ⟨S, L', T, h1, h2, h3, h4⟩ := h
  have hst := h4.stand h3.good.keys s.data.toList
  have hi := isdir_any (h3.at_.inWorld h1) h3.good s hs hmw
  have e : dirT T s.data.toList = (match standE E s.data.toList with | some n => n.dir | none => false) := by
    unfold dirT
    rw [← hst]
    cases standT T s.data.toList <;> rfl
  rw [e] at hi
  exact hi.mono fun e w' hr => ⟨hr.1, hh.later hr.2⟩
/-- The files that stand nowhere. -/
def looseE (l : List (Int × ENd)) : List Int := (l.filter fun p => !p.2.dir && (p.2.places == 0)).map (·.1)
theorem looseL_er (l : List (Int × Nd)) : looseL l = looseE (erL l) := by
  unfold looseL looseE erL
  induction l with
  | nil => rfl
  | cons p r ih =>
    simp only [List.map_cons, List.filter_cons]
    have e : p.2.loose = (!p.2.er.dir && (p.2.er.places == 0)) := rfl
    rw [e]
    split
    · simp only [List.map_cons]; rw [ih]
    · exact ih
theorem live_loose {w0 w : World} {L : List Rw} {t : Nat} {E : Et} (h : Live w0 L t E w) (hn : E.nodes.length ≤ 1000000) :
    Calls Tryz.prog 28 #[.pointer (some ⟨t, 0, none⟩)] w fun e w' => ∃ (v : Value) (zs : List Int), e = .returned v ∧ zs.Perm (looseE E.nodes) ∧ Live w0 (rowI v (zs.mergeSort fun x y => decide (x ≤ y)) :: L) t E w' := by
  have hh := h
  obtain ⟨S, L', T, h1, h2, h3, h4⟩ := h
  refine (loose_t (h3.at_.inWorld h1) (by rw [h4.count]; exact hn)).mono fun e w' hr => ?_
  obtain ⟨v, zs, e1, e2, e3⟩ := hr
  refine ⟨v, zs, e1, e2.trans ?_, hh.join e3⟩
  rw [looseL_er]
  exact (h4.nodes.filter _).map _
end Go.Proofs.YtdjoahhcmkedhaaGreatDoor
end

/- List, against the plain state. -/
section
namespace Go.Proofs.YtdjoahhcmkedhaaGreatDoor
open Go.RowKit
open Go.ChangeMaps (setBlock)
set_option linter.unusedVariables false
set_option linter.unusedSimpArgs false
set_option maxRecDepth 100000

def rowT (v : Value) (ls : List (List UInt8)) : Rw := ⟨9, 1, v, ls.length, ls.map encStr⟩
theorem live_list {w0 w : World} {L : List Rw} {t : Nat} {E : Et} (h : Live w0 L t E w) (hm : Mx w0) (s : ByteArray) (hs : s.size ≤ maxLen) {f : ENd} (hf : standE E s.data.toList = some f) (hd : f.dir = true) (hnd : (f.kids.map (·.1)).Nodup) (hkz : ∀ p ∈ f.kids, p.1.size ≤ maxLen) (hlen : f.kids.length ≤ 1000000) :
    Calls Tryz.prog 29 #[.pointer (some ⟨t, 0, none⟩), .string s] w fun e w' => ∃ (v : Value) (ss : List (List UInt8)), e = .returned (.tuple #[v, .int .i64 0]) ∧ ss.Perm (f.kids.map fun p => p.1.data.toList) ∧ Live w0 (rowT v (ss.mergeSort fun x y => decide (x ≤ y)) :: L) t E w' := by
  have hmw := h.mx hm
  have hh := h
  obtain ⟨S, L', T, h1, h2, h3, h4⟩ := h
  have hst := h4.stand h3.good.keys s.data.toList
  rw [hf] at hst
  cases hn : standT T s.data.toList with
  | none => rw [hn] at hst; cases hst
  | some n =>
    rw [hn] at hst
    have e : n.er = f := by injection hst
    have hki : n.kids = f.kids := congrArg ENd.kids e
    have hk : n.k.isSome = true := (congrArg ENd.dir e).trans hd
    cases hk2 : n.k with
    | none => rw [hk2] at hk; cases hk
    | some k =>
      refine (list_dir (h3.at_.inWorld h1) h3.good s hs hmw hn hk2 (by rw [hki]; exact hnd) (by rw [hki]; exact hkz) (by rw [hki]; exact hlen)).mono fun e w' hr => ?_
      obtain ⟨v, ss, e1, e2, e3, e4⟩ := hr
      rw [hki] at e2
      have hl : (ss.mergeSort fun x y => decide (x ≤ y)).length = ss.length := List.length_mergeSort _
      have hO : Own w w' [rowT v (ss.mergeSort fun x y => decide (x ≤ y))] := ⟨e4, fun p hp => by
        rw [List.mem_singleton.1 hp]
        show w'.ownsRow _ _ 1 v (ss.mergeSort fun x y => decide (x ≤ y)).length _
        rw [hl]; exact e3, List.pairwise_singleton _ _, (fun m hm => by cases hm), (fun m hm => by cases hm)⟩
      exact ⟨v, ss, e1, e2, hh.join hO⟩
end Go.Proofs.YtdjoahhcmkedhaaGreatDoor
end

/- The document's example: its operations. -/
section
namespace Go.Proofs.YtdjoahhcmkedhaaGreatDoor
open Go.RowKit
open Go.ChangeMaps (setBlock)
set_option linter.unusedVariables false
set_option linter.unusedSimpArgs false
set_option maxRecDepth 100000

theorem conv_const (W : World) (C : Array Value) (n c : Nat) : Sem.run Tryz.prog (convert 36 36 (.slice (some ⟨W.heap.size, 0, none⟩) n c)) (W.alloc (.cells C 5)) = .ok (.slice (some ⟨W.heap.size, 0, none⟩) n c) (W.alloc (.cells C 5 (C.size, C.size + 1))) := Lib.run_convert_bytes_const W 36 5 C n c Tryz.underlying36 Tryz.underlying5
theorem one_byts : Byts one := by unfold one Byts; decide
theorem two_byts : Byts two := by unfold two Byts; decide
abbrev bytesAt (b : Nat) : Value := .slice (some ⟨b, 0, none⟩) 3 3
abbrev litO (a b c : Int) : Obj := .cells #[.int .u8 a, .int .u8 b, .int .u8 c] 5 (3, 4)
theorem op_none {w0 : World} {S : Blocks} {L : List Rw} (k : Int) (p q : ByteArray) (hp : p.size ≤ 1000) (hq : q.size ≤ 1000) : OpIn w0 S L ⟨k, p, q, none, 0, 0⟩ ⟨k, p.data.toList, q.data.toList, []⟩ :=
  ⟨rfl, rfl, rfl, by unfold maxLen; show p.size ≤ _; omega, by unfold maxLen; show q.size ≤ _; omega, rfl, .inl (Pc.nil L)⟩
theorem op_bytes {w0 : World} {S : Blocks} {L : List Rw} (k : Int) (p q : ByteArray) (hp : p.size ≤ 1000) (hq : q.size ≤ 1000) {a : Option Addr} {n c : Nat} {zs : List Int} (hn : n = zs.length) (hd : Byo w0 S [] L (.slice a n c) zs) : OpIn w0 S L ⟨k, p, q, a, n, c⟩ ⟨k, p.data.toList, q.data.toList, zs⟩ :=
  ⟨rfl, rfl, rfl, by unfold maxLen; show p.size ≤ _; omega, by unfold maxLen; show q.size ≤ _; omega, hn, hd⟩
theorem Live.lit {w0 w : World} {L : List Rw} {t : Nat} {E : Et} (h : Live w0 L t E w) (o : Obj) : ∃ S L' T, Own ⟨w0, (w.heap.size, o) :: S⟩ (w.alloc o) L' ∧ (∀ x ∈ L, x ∈ L') ∧ Tree ((w.heap.size, o) :: S) (Pc L') t T ∧ Rep T E := by
  obtain ⟨S, L', T, h1, h2, h3, h4⟩ := h
  exact ⟨S, L', T, h1.newB o, h2, h3.mono (fun b x _ hx => List.mem_cons_of_mem _ hx) (fun _ _ h => h), h4⟩
/-- The first three operations. -/
theorem alive_do1 {w w1 : World} {t : Nat} (hm : Mx w) (h : Live w [] t (E0 10) w1) :
    Calls Tryz.prog 14 #[.pointer (some ⟨t, 0, none⟩), .slice (some ⟨w1.heap.size + 1, 0, none⟩) 3 3] ((w1.alloc (litO 111 110 101)).alloc (.cells #[.int .i64 0, .string (toB pA), .string ⟨#[]⟩, .slice none 0 0, .int .i64 2, .string (toB pAF), .string ⟨#[]⟩, bytesAt w1.heap.size, .int .i64 4, .string (toB pAF), .string (toB pG), .slice none 0 0] 38))
      fun e w' => e = .returned (.int .i64 0) ∧ Live w [] t EA1 w' := by
  obtain ⟨S, L', T, h1, h2, h3, h4⟩ := h.lit (litO 111 110 101)
  have hb : Byo w ((w1.heap.size, litO 111 110 101) :: S) [] L' (bytesAt w1.heap.size) one := .inr (.inr ⟨w1.heap.size, _, _, _, List.mem_cons_self .., (by simp), rfl, rfl, one_byts, by decide⟩)
  have hd := do_lit h1 h3 h4 hm [⟨0, toB pA, ⟨#[]⟩, none, 0, 0⟩, ⟨2, toB pAF, ⟨#[]⟩, some ⟨w1.heap.size, 0, none⟩, 3, 3⟩, ⟨4, toB pAF, toB pG, none, 0, 0⟩]
    [⟨0, pA, [], []⟩, ⟨2, pAF, [], one⟩, ⟨4, pAF, pG, []⟩] #[.int .i64 0, .string (toB pA), .string ⟨#[]⟩, .slice none 0 0, .int .i64 2, .string (toB pAF), .string ⟨#[]⟩, bytesAt w1.heap.size, .int .i64 4, .string (toB pAF), .string (toB pG), .slice none 0 0] rfl 3 rfl (by show 3 ≤ 1000000; decide)
    (fun i hi => by
      match i, hi with
      | 0, _ => exact op_none 0 (toB pA) ⟨#[]⟩ (by decide) (by decide)
      | 1, _ => exact op_bytes 2 (toB pAF) ⟨#[]⟩ (by decide) (by decide) rfl hb
      | 2, _ => exact op_none 4 (toB pAF) (toB pG) (by decide) (by decide)
      | n + 3, h => exact absurd h (by simp))
    alive1 (by decide) (by decide) (by decide) (by decide) (by decide)
  rw [show (w1.alloc (litO 111 110 101)).heap.size = w1.heap.size + 1 by simp] at hd
  exact hd.mono fun e w' h => ⟨h.1, h.2.less fun x hx => by cases hx⟩
theorem alive_do2 {w w1 : World} {t : Nat} (hm : Mx w) (h : Live w [] t EA1 w1) :
    Calls Tryz.prog 14 #[.pointer (some ⟨t, 0, none⟩), .slice (some ⟨w1.heap.size + 1, 0, none⟩) 2 2] ((w1.alloc (litO 116 119 111)).alloc (.cells #[.int .i64 2, .string (toB pH), .string ⟨#[]⟩, bytesAt w1.heap.size, .int .i64 5, .string (toB pH), .string (toB pAF), .slice none 0 0] 38))
      fun e w' => e = .returned (.int .i64 0) ∧ Live w [] t EA2 w' := by
  obtain ⟨S, L', T, h1, h2, h3, h4⟩ := h.lit (litO 116 119 111)
  have hb : Byo w ((w1.heap.size, litO 116 119 111) :: S) [] L' (bytesAt w1.heap.size) two := .inr (.inr ⟨w1.heap.size, _, _, _, List.mem_cons_self .., (by simp), rfl, rfl, two_byts, by decide⟩)
  have hd := do_lit h1 h3 h4 hm [⟨2, toB pH, ⟨#[]⟩, some ⟨w1.heap.size, 0, none⟩, 3, 3⟩, ⟨5, toB pH, toB pAF, none, 0, 0⟩]
    [⟨2, pH, [], two⟩, ⟨5, pH, pAF, []⟩] #[.int .i64 2, .string (toB pH), .string ⟨#[]⟩, bytesAt w1.heap.size, .int .i64 5, .string (toB pH), .string (toB pAF), .slice none 0 0] rfl 2 rfl (by show 2 ≤ 1000000; decide)
    (fun i hi => by
      match i, hi with
      | 0, _ => exact op_bytes 2 (toB pH) ⟨#[]⟩ (by decide) (by decide) rfl hb
      | 1, _ => exact op_none 5 (toB pH) (toB pAF) (by decide) (by decide)
      | n + 2, h => exact absurd h (by simp))
    alive2 (by decide) (by decide) (by decide) (by decide) (by decide)
  rw [show (w1.alloc (litO 116 119 111)).heap.size = w1.heap.size + 1 by simp] at hd
  exact hd.mono fun e w' h => ⟨h.1, h.2.less fun x hx => by cases hx⟩
theorem alive_do3 {w w1 : World} {L : List Rw} {t : Nat} (hm : Mx w) (h : Live w L t EA2 w1) :
    Calls Tryz.prog 14 #[.pointer (some ⟨t, 0, none⟩), .slice (some ⟨w1.heap.size, 0, none⟩) 1 1] (w1.alloc (.cells #[.int .i64 6, .string (toB pG), .string ⟨#[]⟩, .slice none 0 0] 38))
      fun e w' => e = .returned (.int .i64 0) ∧ Live w L t EA3 w' := by
  obtain ⟨S, L', T, h1, h2, h3, h4⟩ := h
  have hd := do_lit h1 h3 h4 hm [⟨6, toB pG, ⟨#[]⟩, none, 0, 0⟩] [⟨6, pG, [], []⟩] #[.int .i64 6, .string (toB pG), .string ⟨#[]⟩, .slice none 0 0] rfl 1 rfl (by show 1 ≤ 1000000; decide)
    (fun i hi => by
      match i, hi with
      | 0, _ => exact op_none 6 (toB pG) ⟨#[]⟩ (by decide) (by decide)
      | n + 1, h => exact absurd h (by simp))
    alive3 (by decide) (by decide) (by decide) (by decide) (by decide)
  exact hd.mono fun e w' h => ⟨h.1, h.2.less h2⟩
end Go.Proofs.YtdjoahhcmkedhaaGreatDoor
end

/- The document's example: alive. -/
section
namespace Go.Proofs.YtdjoahhcmkedhaaGreatDoor
open Go.RowKit
open Go.ChangeMaps (setBlock)
set_option linter.unusedVariables false
set_option linter.unusedSimpArgs false
set_option maxRecDepth 100000

theorem Live.row {w0 w : World} {L : List Rw} {t : Nat} {E : Et} (h : Live w0 L t E w) {r : Rw} (hr : r ∈ L) : ∃ S, Own ⟨w0, S⟩ w [r] := by
  obtain ⟨S, L', T, h1, h2, _⟩ := h
  exact ⟨S, h1.only (h2 _ hr)⟩
theorem Live.below {w0 w : World} {L : List Rw} {t : Nat} {E : Et} (h : Live w0 L t E w) : Below w0.heap.size w0 w := by
  obtain ⟨S, L', T, h1, _⟩ := h
  exact h1.below
theorem perm_one {α : Type} {l : List α} {a : α} (h : l.Perm [a]) : l = [a] := List.perm_singleton.1 h
theorem two_str : strOfNums two = { data := #[116, 119, 111] } := rfl
theorem one_str : strOfNums one = { data := #[111, 110, 101] } := rfl
def root3 : ENd := ⟨true, [(toB [97], 2)], [], 0⟩
set_option maxHeartbeats 4000000 in
theorem alive_any (w : World) (hm : Mx w) : Calls Tryz.prog 7 #[] w fun e w' => e = .returned (.bool true) ∧ Below w.heap.size w w' := by
  have hcs := conv_const
  have hnew := tnew_any (D := Pc []) (Own.start w) (Pc.nil []) 10 (by decide)
  go_enter Tryz.func7, Tryz.ntmps7
  go_wp2_with fail
  refine hnew.mono ?_
  rintro e w1 ⟨S1, rfl, hO1, H1, _⟩
  have hL1 : Live w [] (w.heap.size + 3) (E0 10) w1 := ⟨S1, [], _, hO1, fun _ h => h, H1, new_rep _ 10⟩
  generalize w.heap.size + 3 = t at *
  have hdo1 := alive_do1 hm hL1
  clear hnew hO1 H1 hL1
  go_wp2_with fail
  refine hdo1.mono ?_
  rintro e w2 ⟨rfl, hL2⟩
  have hdo2 := alive_do2 hm hL2
  clear hdo1 hL2
  go_wp2_with fail
  refine hdo2.mono ?_
  rintro e w3 ⟨rfl, hL3⟩
  have hr1 := live_read hL3 hm (toB pAF) (by decide) (f := ⟨false, [], two, 1⟩) (by rfl) rfl (by decide)
  clear hdo2 hL3
  go_wp2_with fail
  refine hr1.mono ?_
  rintro e w4 ⟨v4, rfl, hL4⟩
  obtain ⟨_, ho4⟩ := hL4.row (List.mem_cons_self ..)
  obtain ⟨a4, c4, rfl, _, _⟩ := Own.sized (h := (show Own _ w4 (⟨5, 1, v4, two.length, bs two⟩ :: []) from ho4))
  have hr2 := live_read hL4 hm (toB pG) (by decide) (f := ⟨false, [], one, 1⟩) (by rfl) rfl (by decide)
  clear hr1 hL4 ho4
  go_wp2_with fail
  refine hr2.mono ?_
  rintro e w5 ⟨v5, rfl, hL5⟩
  obtain ⟨_, ho5⟩ := hL5.row (List.mem_cons_self ..)
  obtain ⟨a5, c5, rfl, _, _⟩ := Own.sized (h := (show Own _ w5 (⟨5, 1, v5, one.length, bs one⟩ :: []) from ho5))
  have hdo3 := alive_do3 hm hL5
  clear hr2 hL5 ho5
  go_wp2_with fail
  refine hdo3.mono ?_
  rintro e w6 ⟨rfl, hL6⟩
  have hli := live_list hL6 hm (toB [47]) (by decide) (f := root3) (by rfl) rfl (by decide) (fun p hp => by
    have : p = (toB [97], 2) := by simpa [root3] using hp
    subst this
    decide) (by decide)
  clear hdo3 hL6
  go_wp2_with fail
  refine hli.mono ?_
  rintro e w7 ⟨v7, ss, rfl, hss, hL7⟩
  have hss1 : ss = [[97]] := perm_one hss
  subst hss1
  clear hli hss
  have hsrt : ([[97]] : List (List UInt8)).mergeSort (fun x y => decide (x ≤ y)) = [[97]] := by simp
  rw [hsrt] at hL7
  obtain ⟨_, ho7⟩ := hL7.row (List.mem_cons_self ..)
  obtain ⟨g7, c7, rfl, _, _, _, _⟩ := Own.form (h := (show Own _ w7 (⟨9, 1, v7, 1, [encStr [97]]⟩ :: []) from ho7)) (by decide)
  have cv4 := (hL7.by (v := .slice a4 two.length c4) (zs := two) (List.mem_cons_of_mem _ (List.mem_cons_of_mem _ (List.mem_cons_self ..))) two_byts).toStr
  have cv5 := (hL7.by (v := .slice a5 one.length c5) (zs := one) (List.mem_cons_of_mem _ (List.mem_cons_self ..)) one_byts).toStr
  rw [two_str] at cv4
  rw [one_str] at cv5
  have hlo := live_loose hL7 (by decide)
  have HL7 := Lib.hid hL7
  clear ho7 hL7 hsrt
  go_wp2_with fail
  refine hlo.mono ?_
  rintro e w8 ⟨v8, zs, rfl, hz, hL8⟩
  have hz3 : zs = [3] := perm_one (by rw [show looseE EA3.nodes = [3] by rfl] at hz; exact hz)
  subst hz3
  rw [show ([3] : List Int).mergeSort (fun x y => decide (x ≤ y)) = [3] by simp] at hL8
  obtain ⟨_, ho8⟩ := hL8.row (List.mem_cons_self ..)
  obtain ⟨a8, c8, rfl, _, _⟩ := Own.sized (h := (show Own _ w8 (⟨3, 1, v8, 1, [.int .i64 3]⟩ :: []) from ho8))
  have hus := live_used hL8 (by decide)
  rw [show (sumE EA3.nodes : Nat) = 6 by decide] at hus
  clear hlo hL8 ho8 hz cv4 cv5
  go_wp2_with fail
  refine hus.mono ?_
  rintro e w9 ⟨rfl, hL9⟩
  have hno := live_nodes hL9
  rw [show (EA3.nodes.length : Int) = 4 by decide] at hno
  have hdi : Calls Tryz.prog 27 #[.pointer (some ⟨t, 0, none⟩), .string (toB pA)] w9 (fun e w' => e = .returned (.bool true) ∧ Live w _ t EA3 w') := live_dir hL9 hm (toB pA) (by decide)
  obtain ⟨_, ho9⟩ := hL9.row (r := rowT (.slice (some ⟨g7, 0, none⟩) 1 c7) [[97]]) (List.mem_cons_of_mem _ (List.mem_cons_self ..))
  have c0 : w9.cell? ⟨g7, 0, none⟩ = some (.string { data := #[97] }) := Own.cell (h := (show Own _ w9 (⟨9, 1, .slice (some ⟨g7, 0, none⟩) 1 c7, 1, [encStr [97]]⟩ :: []) from ho9)) 0 (by decide)
  clear hus hL9 ho9
  go_wp2_with (first
    | (go_at_call 24; refine hno.mono ?_; rintro e w' ⟨rfl, rfl⟩)
    | (go_at_call 27; refine hdi.mono ?_; rintro e w10 ⟨rfl, hL10⟩))
  go_ret
  exact ⟨rfl, hL10.below⟩
end Go.Proofs.YtdjoahhcmkedhaaGreatDoor
end

/- TreeWhole: operations one by one, and all at once. -/
section
namespace Go.Proofs.YtdjoahhcmkedhaaGreatDoor
open Go.RowKit
set_option linter.unusedVariables false
set_option linter.unusedSimpArgs false
set_option maxRecDepth 100000

theorem inv_new (q : Int) : Inv (E0 q) 0 := by
  have hl : ∀ i n, look (E0 q).nodes i = some n → i = 1 ∧ n = ⟨true, [], [], 0⟩ := fun i n h => by
    have := look_mem h
    have h2 : (i, n) = (1, ⟨true, [], [], 0⟩) := by simpa [E0] using this
    injection h2 with h3 h4
    exact ⟨h3, h4⟩
  refine ⟨by show ([1] : List Int).Nodup; simp, ⟨⟨true, [], [], 0⟩, rfl, rfl⟩, fun i n h q' hq => ?_, fun i n h => ?_, fun i n h hd => ?_, fun i n h hd hi => ?_, rfl, fun i n h => ?_, fun i n h => ?_, Nat.le_refl _, by show (2 : Int) ≤ 0 + 2; decide, Nat.zero_le _, Nat.le_refl _⟩
  · obtain ⟨rfl, rfl⟩ := hl i n h; cases hq
  · obtain ⟨rfl, rfl⟩ := hl i n h; exact List.nodup_nil
  · obtain ⟨rfl, rfl⟩ := hl i n h; cases hd
  · obtain ⟨rfl, rfl⟩ := hl i n h; exact absurd rfl hi
  · obtain ⟨rfl, rfl⟩ := hl i n h; exact ⟨Int.le_refl _, by show (1 : Int) < 2; decide⟩
  · obtain ⟨rfl, rfl⟩ := hl i n h; exact Nat.zero_le _
theorem over_new (q : Int) (hq : 0 ≤ q) : overE (E0 q) = 0 := by
  unfold overE
  rw [if_neg (show ¬ 128 < (E0 q).nodes.length by show ¬ 128 < 1; decide), if_neg (show ¬ (E0 q).quota < ((sumE (E0 q).nodes : Nat) : Int) by show ¬ q < ((0 : Nat) : Int); omega)]
theorem over_cases {E : Et} {B : Nat} (h : Inv E B) (hB : B ≤ 299) (hq : E.quota = 1048576) : overE E = 0 ∨ overE E = 7 := by
  have := h.sum
  unfold overE
  split
  · exact .inr rfl
  · rw [if_neg (by rw [hq]; omega)]; exact .inl rfl
theorem over_do {E : Et} (h : overE E = 0) (xs : List OpE) : overE (DoE E xs).2 = 0 := by
  unfold DoE
  split
  · split
    · assumption
    · exact h
  · exact h
/-- One after the other, till the first that is refused. -/
def seqE (s : Int × Et) (xs : List OpE) : Int × Et := xs.foldl (fun s o => if s.1 = 0 then DoE s.2 [o] else s) s
theorem seq_stop (xs : List OpE) : ∀ (s : Int × Et), s.1 ≠ 0 → seqE s xs = s := by
  induction xs with
  | nil => intro s _; rfl
  | cons o r ih =>
    intro s h
    show seqE (if s.1 = 0 then DoE s.2 [o] else s) r = s
    rw [if_neg h]; exact ih s h
theorem do_one_eq (E : Et) (o : OpE) : DoE E [o] = if (stepE E o).1 = 0 then (if overE (stepE E o).2 = 0 then (0, (stepE E o).2) else (overE (stepE E o).2, E)) else ((stepE E o).1, E) := by
  have e : doS E [o] = if (stepE E o).1 = 0 then (0, (stepE E o).2) else ((stepE E o).1, E) := rfl
  unfold DoE
  rw [e]
  by_cases h : (stepE E o).1 = 0
  · rw [if_pos h, if_pos rfl, if_pos h]
  · rw [if_neg h, if_neg h, if_neg h]
theorem seq_ok : ∀ (xs : List OpE) (E : Et), overE E = 0 → (seqE (0, E) xs).1 = 0 → doS E xs = (0, (seqE (0, E) xs).2) ∧ overE (seqE (0, E) xs).2 = 0 := by
  intro xs
  induction xs with
  | nil => intro E h _; exact ⟨rfl, h⟩
  | cons o r ih =>
    intro E h hs
    have e : seqE (0, E) (o :: r) = seqE (DoE E [o]) r := rfl
    rw [e] at hs ⊢
    rw [do_one_eq] at hs ⊢
    unfold doS
    by_cases h1 : (stepE E o).1 = 0
    · rw [if_pos h1] at hs ⊢
      rw [if_pos h1]
      by_cases h2 : overE (stepE E o).2 = 0
      · rw [if_pos h2] at hs ⊢
        exact ih _ h2 hs
      · rw [if_neg h2, seq_stop r (overE (stepE E o).2, E) h2] at hs
        exact absurd hs h2
    · rw [if_neg h1, seq_stop r ((stepE E o).1, E) h1] at hs
      exact absurd hs h1
theorem seq_seven : ∀ (xs : List OpE) (E : Et) (B : Nat), Inv E B → B + xs.length ≤ 299 → E.quota = 1048576 → (doS E xs).1 = 0 → (seqE (0, E) xs).1 = 0 ∨ (seqE (0, E) xs).1 = 7 := by
  intro xs
  induction xs with
  | nil => intro E B _ _ _ _; exact .inl rfl
  | cons o r ih =>
    intro E B I hB hq hs
    have e : seqE (0, E) (o :: r) = seqE (DoE E [o]) r := rfl
    rw [e, do_one_eq]
    unfold doS at hs
    by_cases h1 : (stepE E o).1 = 0
    · rw [if_pos h1] at hs ⊢
      have I2 := stepE_inv I o
      have hq2 : (stepE E o).2.quota = 1048576 := (stepE_quota E o).trans hq
      simp only [List.length_cons] at hB
      by_cases h2 : overE (stepE E o).2 = 0
      · rw [if_pos h2]
        exact ih _ (B + 1) I2 (by omega) hq2 hs
      · have h7 := (over_cases I2 (by omega) hq2).resolve_left h2
        rw [if_neg h2, seq_stop r (overE (stepE E o).2, E) h2]
        exact .inr h7
    · rw [if_neg h1] at hs
      exact absurd hs h1
theorem seq_inv : ∀ (xs : List OpE) (s : Int × Et) (B : Nat), Inv s.2 B → Inv (seqE s xs).2 (B + xs.length) := by
  intro xs
  induction xs with
  | nil => intro s B h; exact h
  | cons o r ih =>
    intro s B h
    have h2 : Inv (if s.1 = 0 then DoE s.2 [o] else s).2 (B + 1) := by
      split
      · exact DoE_inv h [o]
      · exact h.mono (Nat.le_succ B)
    have := ih _ _ h2
    exact this.mono (by simp; omega)
theorem seq_snoc (s : Int × Et) (xs : List OpE) (o : OpE) : seqE s (xs ++ [o]) = if (seqE s xs).1 = 0 then DoE (seqE s xs).2 [o] else seqE s xs := by
  unfold seqE
  rw [List.foldl_append]; rfl
theorem seq_take (s : Int × Et) (xs : List OpE) (k : Nat) (h : k < xs.length) : seqE s (xs.take (k + 1)) = if (seqE s (xs.take k)).1 = 0 then DoE (seqE s (xs.take k)).2 [xs[k]] else seqE s (xs.take k) := by
  rw [List.take_succ_eq_append_getElem h, seq_snoc]
/-- A tree behind batches. -/
def runE (E : Et) (bs : List Bat) : Et := bs.foldl (fun E b => (DoE E b.xs).2) E
theorem run_take (E : Et) (bs : List Bat) (k : Nat) (h : k < bs.length) : runE E (bs.take (k + 1)) = (DoE (runE E (bs.take k)) bs[k].xs).2 := by
  unfold runE
  rw [List.take_succ_eq_append_getElem h, List.foldl_append]; rfl
theorem run_inv : ∀ (bs : List Bat) (E : Et) (B : Nat), Inv E B → (∀ b ∈ bs, b.xs.length = b.ops.length) → overE E = 0 → Inv (runE E bs) (B + bulkB bs) ∧ overE (runE E bs) = 0 ∧ (runE E bs).quota = E.quota := by
  intro bs
  induction bs with
  | nil => intro E B h _ h2; exact ⟨h, h2, rfl⟩
  | cons b r ih =>
    intro E B h hl h2
    obtain ⟨g1, g2, g3⟩ := ih (DoE E b.xs).2 (B + b.xs.length) (DoE_inv h b.xs) (fun c hc => hl c (List.mem_cons_of_mem _ hc)) (over_do h2 b.xs)
    refine ⟨g1.mono ?_, g2, g3.trans (DoE_quota E b.xs)⟩
    have := hl b (List.mem_cons_self ..)
    unfold bulkB
    simp only [List.map_cons, List.sum_cons]
    omega
/-- What TreeWhole asks. -/
theorem whole_fact {E : Et} {B : Nat} (I : Inv E B) (xs : List OpE) (hB : B + xs.length ≤ 299) (hq : E.quota = 1048576) (ho : overE E = 0) :
    ((seqE (0, E) xs).1 = 0 → DoE E xs = (0, (seqE (0, E) xs).2)) ∧ ((DoE E xs).1 = 0 → (seqE (0, E) xs).1 = 0 ∨ (seqE (0, E) xs).1 = 7) ∧ ((DoE E xs).1 ≠ 0 → (DoE E xs).2 = E) := by
  refine ⟨fun h => ?_, fun h => ?_, fun h => ?_⟩
  · obtain ⟨h1, h2⟩ := seq_ok xs E ho h
    unfold DoE
    rw [h1, if_pos rfl, if_pos h2]
  · have h1 : (doS E xs).1 = 0 := by
      unfold DoE at h
      by_cases h2 : (doS E xs).1 = 0
      · exact h2
      · rw [if_neg h2] at h; exact h
    exact seq_seven xs E B I hB hq h1
  · unfold DoE at h ⊢
    split
    · rename_i h1
      rw [if_pos h1] at h
      split
      · rename_i h2
        rw [if_pos h2] at h; exact absurd rfl h
      · rfl
    · rfl
end Go.Proofs.YtdjoahhcmkedhaaGreatDoor
end

/- TreeWhole: the walk. -/
section
namespace Go.Proofs.YtdjoahhcmkedhaaGreatDoor
open Go.RowKit
open Go.ChangeMaps (setBlock)
set_option linter.unusedVariables false
set_option linter.unusedSimpArgs false
set_option maxRecDepth 100000

theorem lit_reads {w w1 : World} {a : Option Addr} {ops : List OpD} {xs : List OpE} {c : Nat} (hO : OpsA w a ops xs) (hb : Below w.heap.size w w1) :
    Reads (w1.alloc (.cells #[.slice a ops.length c, .slice none 0 0] 35)) (some ⟨w1.heap.size, 0, none⟩) [⟨a, c, ops, xs, none, 0, []⟩] := fun i hi => by
  obtain rfl : i = 0 := by simpa using hi
  refine ⟨⟨w1.heap.size, 0, rfl, fun j v hj => ?_⟩, fun k hk => ?_⟩
  · rw [Nat.zero_mul, Nat.add_zero, Nat.zero_add, World.cell?_alloc_new]
    have hj2 : ([.slice a ops.length c, .slice none 0 0] : List Value)[j]? = some v := hj
    simpa using hj2
  · obtain ⟨g, off, e, hr⟩ := hO.at_ k hk
    exact ⟨g, off, e, range_later ((Below.refl _ w1).alloc (Nat.le_refl _) _) (range_later hb hr)⟩
theorem op_info : ∃ i z, Tryz.prog.info? 38 = some i ∧ i.size = 4 ∧ i.zero = some z ∧ z.cells.size = 4 := by
  have h : (Tryz.prog.info? 38).map (fun i => (i.size, i.zero)) = some (4, some (.agg #[.int .i64 0, .string ⟨#[]⟩, .string ⟨#[]⟩, .slice none 0 0])) := by kernel_rfl
  cases hi : Tryz.prog.info? 38 with
  | none => rw [hi] at h; cases h
  | some i =>
    rw [hi] at h
    injection h with h
    injection h with h1 h2
    exact ⟨i, _, rfl, h1, h2, rfl⟩
set_option maxHeartbeats 8000000 in
theorem whole_law (W : World) (hm : Mx W) {a0 a1 : Option Addr} {bs : List Bat} {ops : List OpD} {xs : List OpE} {cap0 cap1 : Nat} (hB : Bats W a0 bs) (hO : OpsA W a1 ops xs) (hbn : bs.length ≤ maxLen) (hbulk : bulkB bs ≤ 1048576) (hon : ops.length ≤ 1048576) :
    Calls Tryz.prog 5 #[.slice a0 bs.length cap0, .slice a1 ops.length cap1] W fun e w' => e = .returned (.bool true) ∧ Below W.heap.size W w' := by
  have hal := alive_any W hm
  have HB := Lib.hid hB
  have HO := Lib.hid hO
  have Hbn := Lib.hid hbn
  have Hbulk := Lib.hid hbulk
  have Hon := Lib.hid hon
  have Hm := Lib.hid hm
  have hfew1 : ∀ w1, Below W.heap.size W w1 → Calls Tryz.prog 8 #[.slice a0 bs.length cap0] w1 fun e w' => e = .returned (.bool (fewB bs)) ∧ Below w1.heap.size w1 w' := fun w1 h1 => few_any a0 bs cap0 (HB.out.reads.later h1) Hbn.out (by have := Hbulk.out; omega)
  have hfew2 : ∀ w1, Below W.heap.size W w1 → Calls Tryz.prog 8 #[.slice (some ⟨w1.heap.size, 0, none⟩) 1 1] (w1.alloc (.cells #[.slice a1 ops.length cap1, .slice none 0 0] 35)) fun e w' => e = .returned (.bool (fewB [⟨a1, cap1, ops, xs, none, 0, []⟩])) ∧ Below W.heap.size W w' := fun w1 h1 =>
    (few_any (some ⟨w1.heap.size, 0, none⟩) [⟨a1, cap1, ops, xs, none, 0, []⟩] 1 (lit_reads HO.out h1) (by show 1 ≤ maxLen; unfold maxLen; decide) (by show 1 + ops.length + 0 ≤ _; have := Hon.out; omega)).mono fun e w' hd => ⟨hd.1, (((Own.start W).later h1).alloc _).later hd.2 |>.below⟩
  have Hf1 := Lib.hid hfew1
  have Hf2 := Lib.hid hfew2
  clear hB hO hbn hbulk hon hm hfew1 hfew2
  go_enter Tryz.func5, Tryz.ntmps5
  go_wp2_with fail
  refine hal.mono ?_
  rintro e w1 ⟨rfl, hb1⟩
  have hf1 := Hf1.out w1 hb1
  clear hal
  go_wp2_with fail
  refine hf1.mono ?_
  rintro e w2 ⟨rfl, hb2⟩
  have hb2 := (((Own.start W).later hb1).later hb2).below
  have hf2 := Hf2.out w2 hb2
  clear hf1 hb1 Hf1 Hf2
  obtain ⟨F1, hF1⟩ : ∃ F1, fewB bs = F1 := ⟨_, rfl⟩
  obtain ⟨F2, hF2⟩ : ∃ F2, fewB [⟨a1, cap1, ops, xs, none, 0, []⟩] = F2 := ⟨_, rfl⟩
  rw [hF1]
  rw [hF2] at hf2
  have HF1 := Lib.hid hF1
  have HF2 := Lib.hid hF2
  clear hF1 hF2
  cases F1 with
  | false =>
    go_wp2_with fail
    go_ret
    exact ⟨rfl, hb2⟩
  | true =>
    go_wp2_with fail
    refine hf2.mono ?_
    rintro e w3 ⟨rfl, hb3⟩
    clear hf2 hb2
    cases F2 with
    | false =>
      go_wp2_with fail
      go_ret
      exact ⟨rfl, hb3⟩
    | true =>
      have hg : bulkB bs ≤ 120 := by
        have := HF1.out
        unfold fewB at this
        exact of_decide_eq_true (Bool.and_eq_true_iff.1 this).2
      have hg2 : ops.length ≤ 119 := by
        have := HF2.out
        unfold fewB at this
        have h2 : bulkB [⟨a1, cap1, ops, xs, none, 0, []⟩] ≤ 120 := of_decide_eq_true (Bool.and_eq_true_iff.1 this).2
        have h3 : bulkB [⟨a1, cap1, ops, xs, none, 0, []⟩] = 1 + ops.length + 0 := rfl
        omega
      have hlen : ∀ b ∈ bs, b.xs.length = b.ops.length := fun b hb => by
        obtain ⟨i, hi, rfl⟩ := List.getElem_of_mem hb
        exact (HB.out i hi).2.ops.len
      have Hrun := Lib.hid (fun k => run_inv (bs.take k) (E0 1048576) 0 (inv_new _) (fun b hb => hlen b (List.mem_of_mem_take hb)) (over_new _ (by decide)))
      have Hg := Lib.hid hg
      have Hg2 := Lib.hid hg2
      have hnew := tnew_any (D := Pc []) ((Own.start W).later hb3) (Pc.nil []) 1048576 (by decide)
      clear hg hg2 hlen HF1 HF2 hb3 Hbulk Hon
      go_wp2_with fail
      refine hnew.mono ?_
      rintro e w4 ⟨S4, rfl, hO4, H4, _⟩
      have hF4 : Forest W [] [] [(w3.heap.size + 3, E0 1048576)] w4 := Forest.one hO4 (fun _ h => h) H4 (by
        have := new_rep w3.heap.size 1048576
        rw [show max (1048576 : Int) 0 = 1048576 by decide] at this
        exact this)
      have HF4 := Lib.hid hF4
      clear hnew hO4 H4 hF4
      generalize w3.heap.size + 3 = t at *
      go_wp2_with fail
      go_loopw [37] (fun iv wr => ∃ k : Nat, k ≤ bs.length ∧ iv = .int .i64 k ∧ Forest W [] [] [(t, runE (E0 1048576) (bs.take k))] wr) (fun iv _ => bs.length - (intOf iv).toNat)
      case atStart => exact ⟨0, Nat.zero_le _, rfl, HF4.out⟩
      case round =>
        obtain ⟨k, hk, rfl, hF⟩ := hrel
        have hbn := Hbn.out
        unfold maxLen at hbn
        by_cases hkl : k < bs.length
        · obtain ⟨b, hb, ⟨g, off, rfl, hr⟩, hbo⟩ : ∃ b, b = bs[k] ∧ (∃ g off, a0 = some ⟨g, off, none⟩ ∧ wr.rangeAt g (off + k * 2) b.cells) ∧ BatOld W b := ⟨_, rfl, (by
            obtain ⟨g, off, e, hr⟩ := (HB.out k hkl).1
            exact ⟨g, off, e, range_later hF.below hr⟩), (HB.out k hkl).2⟩
          have hrun := run_take (E0 1048576) bs k hkl
          have hsum := bulk_take bs k hkl
          have hle := bulk_le bs (k + 1)
          rw [← hb] at hrun hsum
          clear hb
          have Ik := (Hrun.out k).1
          have hnb : 0 + bulkB (bs.take k) + b.ops.length ≤ 200000 := by have := Hg.out; omega
          have hcall := fun w' (h : Forest W [] [] [(t, runE (E0 1048576) (bs.take k))] w') => forest_do (A := []) (B := []) h Ik Hm.out hbo.ops b.c hnb
          have Hcall := Lib.hid hcall
          have Hrn := Lib.hid hrun
          have Hr := Lib.hid hr
          have HS := Lib.hid (Own.start wr)
          have Hone := Lib.hid (bat_one b)
          have HFk := Lib.hid hF
          have hb63 : (k : Int) < (bs.length : Int) := by exact_mod_cast hkl
          clear hcall hrun hsum hle Ik hnb hr hF hbo
          go_wp2_with (first
            | (refine wpList_load_mid rfl 35 (.tmp 39) rfl g (off + k * 2) rfl b.cells _ Hr.out Tryz.underlying35 rfl (info_bat _) ?_)
            | (refine wpList_store_new rfl 35 (.tmp 7) (.tmp 40) rfl HS.out b.cells wr.heap.size rfl rfl rfl rfl (info_bat _) Hone.out ?_))
          intro w5 hO5 hlt5
          have c0 : w5.cell? ⟨wr.heap.size, 0, none⟩ = some (.slice b.a b.ops.length b.c) := Own.cell (h := hO5) 0 (by decide)
          have hcl := Hcall.out w5 (HFk.out.later hO5.below)
          clear hO5 Hr HS Hone HFk Hcall
          go_wp2_with fail
          refine hcl.mono ?_
          rintro e w6 ⟨rfl, hF6⟩
          have HF6 := Lib.hid hF6
          clear hF6 hcl c0
          go_wp2_with fail
          go_roundw
          case rel => exact ⟨k + 1, by omega, by go_num, by rw [Hrn.out]; exact HF6.out⟩
          case measure => simp [intOf]; omega
        · have hke : k = bs.length := by omega
          subst hke
          have hb63 : ¬ ((bs.length : Int) < (bs.length : Int)) := Int.lt_irrefl _
          obtain ⟨Ir, hor, hqr⟩ := Hrun.out bs.length
          rw [List.take_length] at hF Ir hor hqr
          obtain ⟨El, hEl⟩ : ∃ El, runE (E0 1048576) bs = El := ⟨_, rfl⟩
          rw [hEl] at hF Ir hor hqr
          have hxl := HO.out.len
          have hfact := whole_fact Ir xs (by have := Hg.out; have := Hg2.out; omega) hqr hor
          have hsi := fun k => seq_inv (xs.take k) (0, El) (0 + bulkB bs) Ir
          have HI := Lib.hid Ir
          have HFact := Lib.hid hfact
          have HSi := Lib.hid hsi
          clear hEl Ir hor hqr hfact hsi Hrun
          have hcl := forest_clone hF (t := t) (E := El) (by simp)
          clear hF
          go_wp2_with fail
          refine hcl.mono ?_
          rintro e w5 ⟨u, rfl, hF5⟩
          have HF5 := Lib.hid hF5
          clear hF5 hcl hb63
          go_wp2_with fail
          go_loopw [9, 50] (fun ev iv wr => ∃ k : Nat, k ≤ ops.length ∧ iv = .int .i64 k ∧ ev = .int .i64 (seqE (0, El) (xs.take k)).1 ∧ Forest W [] [] [(u, (seqE (0, El) (xs.take k)).2), (t, El)] wr) (fun _ iv _ => ops.length - (intOf iv).toNat)
          case atStart => exact ⟨0, Nat.zero_le _, rfl, rfl, HF5.out⟩
          case round =>
            obtain ⟨k, hk, rfl, rfl, hF⟩ := hrel
            by_cases hkl : k < ops.length
            · obtain ⟨o, ho, ⟨g, off, rfl, hr⟩, hold⟩ : ∃ o, o = ops[k] ∧ (∃ g off, a1 = some ⟨g, off, none⟩ ∧ wr.rangeAt g (off + k * 4) o.cells) ∧ OpOld W o (xs[k]'(by omega)) := ⟨_, rfl, (by
                obtain ⟨g, off, e, hr⟩ := HO.out.at_ k hkl
                exact ⟨g, off, e, range_later hF.below hr⟩), HO.out.old k hkl⟩
              have hstep := seq_take (0, El) xs k (by omega)
              have Ik := HSi.out k
              have hnb : 0 + bulkB bs + (xs.take k).length + 1 ≤ 200000 := by have := Hg.out; have := Hg2.out; rw [List.length_take]; omega
              obtain ⟨sk, hsk⟩ : ∃ sk, seqE (0, El) (xs.take k) = sk := ⟨_, rfl⟩
              rw [hsk] at hstep Ik hF
              have Hstep := Lib.hid hstep
              have hcall := fun w' (h : Forest W [] [] [(u, sk.2), (t, El)] w') => forest_do1 (A := []) (B := [(t, El)]) h Ik Hm.out hold hnb
              have Hcall := Lib.hid hcall
              have Hr := Lib.hid hr
              have HS := Lib.hid (Own.start wr)
              have Hone := Lib.hid (op_one o)
              have HFk := Lib.hid hF
              have Hkl := Lib.hid hkl
              have Hg3 := Lib.hid (Hg2.out)
              have hb63 : (k : Int) < (ops.length : Int) := by exact_mod_cast hkl
              have hol : ops.length ≤ 119 := Hg2.out
              rw [hsk]
              clear hcall hstep Ik hnb hr hF hold ho hsk
              go_wp2_with (first
                | (refine wpList_load_mid rfl 38 (.tmp 52) rfl g (off + k * 4) rfl o.cells _ Hr.out Tryz.underlying38 rfl (info_op _) ?_)
                | (refine wpList_store_new rfl 38 (.tmp 11) (.tmp 53) rfl HS.out o.cells wr.heap.size rfl rfl rfl rfl (info_op _) Hone.out ?_))
              intro w6 hO6 hlt6
              have HF6 := Lib.hid (HFk.out.later hO6.below)
              have Hr6 := Lib.hid (show w6.rangeAt wr.heap.size 0 o.cells from by
                have h1 := Own.range (h := hO6) 0 4
                exact h1)
              clear hO6 Hr HS Hone HFk
              obtain ⟨c, E2⟩ := sk
              rcases Classical.em (c = 0) with hc | hc
              · subst hc
                have hcl := Hcall.out w6 HF6.out
                have Hst := Lib.hid (Hstep.out.trans (if_pos rfl))
                clear Hcall HF6 Hstep
                obtain ⟨inf, zz, hi1, hi2, hi3, hi4⟩ := op_info
                have Hi1 := Lib.hid hi1
                have Hi2 := Lib.hid hi2
                have Hi3 := Lib.hid hi3
                have Hi4 := Lib.hid hi4
                clear hi1 hi2 hi3 hi4
                go_wp2_with (first
                  | (refine wpList_load_mid rfl 38 (.tmp 11) rfl wr.heap.size 0 rfl o.cells _ Hr6.out Tryz.underlying38 rfl (info_op _) ?_)
                  | (refine wpList_buildSlice_one rfl 32 (.tmp 57) rfl 38 4 inf zz Tryz.underlying32 Hi1.out Hi2.out Hi3.out Hi4.out (by decide) (by decide) o.cells rfl rfl ?_))
                refine hcl.mono ?_
                rintro e w7 ⟨rfl, hF7⟩
                have HF7 := Lib.hid hF7
                clear hF7 hcl Hr6
                go_wp2_with fail
                go_roundw
                case rel => exact ⟨k + 1, by have := Hkl.out; omega, by go_num, by rw [Hst.out], by rw [Hst.out]; exact HF7.out⟩
                case measure => have := Hkl.out; simp [intOf]; omega
              · have hc1 : (c == 0) = false := by simpa using hc
                have Hst := Lib.hid (Hstep.out.trans (if_neg hc))
                clear Hcall Hstep hc Hr6
                go_wp2_with fail
                go_roundw
                case rel => exact ⟨k + 1, by have := Hkl.out; omega, by go_num, by rw [Hst.out], by rw [Hst.out]; exact HF6.out⟩
                case measure => have := Hkl.out; simp [intOf]; omega
            · have hke : k = ops.length := by omega
              subst hke
              have hb63 : ¬ ((ops.length : Int) < (ops.length : Int)) := Int.lt_irrefl _
              rw [← hxl, List.take_length] at hF ⊢
              rw [hxl]
              have Iu := HSi.out xs.length
              rw [List.take_length] at Iu
              obtain ⟨f1, f2, f3⟩ := HFact.out
              obtain ⟨sk, hsk⟩ : ∃ sk, seqE (0, El) xs = sk := ⟨_, rfl⟩
              obtain ⟨fk, hfk⟩ : ∃ fk, DoE El xs = fk := ⟨_, rfl⟩
              have hI2 := DoE_inv HI.out xs
              rw [hsk] at hF Iu f1 f2 ⊢
              rw [hfk] at f1 f2 f3 hI2
              obtain ⟨ec, Eu⟩ := sk
              obtain ⟨fc, Ef⟩ := fk
              have F1 := Lib.hid f1
              have F2 := Lib.hid f2
              have F3 := Lib.hid f3
              have HIu := Lib.hid Iu
              have HIf := Lib.hid hI2
              have hcl2 := forest_clone hF (t := t) (E := El) (by simp)
              clear f1 f2 f3 Iu hI2 hsk HFact HSi hF
              go_wp2_with fail
              refine hcl2.mono ?_
              rintro e w6 ⟨v, rfl, hF6⟩
              have hn6 := forest_nodes hF6 (t := t) (E := El) (by simp)
              have HF6 := Lib.hid hF6
              clear hcl2 hF6 hb63
              go_wp2_with fail
              refine hn6.mono ?_
              rintro e w6' ⟨rfl, rfl⟩
              have hu6 := forest_used HF6.out (t := t) (E := El) (by simp) HI.out (by have := Hg.out; omega)
              clear hn6
              go_wp2_with fail
              refine hu6.mono ?_
              rintro e w7 ⟨rfl, hF7⟩
              have hdo := forest_do (A := [(v, El), (u, Eu)]) (B := []) hF7 HI.out Hm.out HO.out cap1 (by have := Hg.out; have := Hg2.out; omega)
              rw [hfk] at hdo
              clear hu6 hF7 HF6 hfk
              go_wp2_with fail
              refine hdo.mono ?_
              rintro e w8 ⟨rfl, hF8⟩
              have HF8 := Lib.hid hF8
              clear hdo hF8
              dsimp only at F1 F2 F3 HF8 ⊢
              rcases Classical.em (ec = 0) with hec | hec
              · have hq := F1.out hec
                injection hq with hq1 hq2
                subst hec hq1 hq2
                have hB2 : 0 + bulkB bs + xs.length ≤ 200000 := by have := Hg.out; have := Hg2.out; omega
                have hn1 := forest_nodes HF8.out (t := t) (E := Ef) (by simp)
                clear F1 F2 F3
                go_wp2_with fail
                refine hn1.mono ?_
                rintro e w9 ⟨rfl, rfl⟩
                have hn2 := forest_nodes HF8.out (t := u) (E := Ef) (by simp)
                clear hn1
                go_wp2_with fail
                refine hn2.mono ?_
                rintro e w9 ⟨rfl, rfl⟩
                have hu1 := forest_used HF8.out (t := t) (E := Ef) (by simp) HIf.out hB2
                clear hn2
                go_wp2_with fail
                refine hu1.mono ?_
                rintro e w9 ⟨rfl, hF9⟩
                have HF9 := Lib.hid hF9
                have hu2 := forest_used hF9 (t := u) (E := Ef) (by simp) HIf.out hB2
                clear hu1 hF9 HF8
                go_wp2_with fail
                refine hu2.mono ?_
                rintro e w10 ⟨rfl, hF10⟩
                have HF10 := Lib.hid hF10
                clear hu2 hF10 HF9
                go_wp2_with fail
                go_ret
                exact ⟨by simp, HF10.out.below⟩
              · have hec1 : (ec == 0) = false := by simpa using hec
                rcases Classical.em (fc = 0) with hfc | hfc
                · have h7 := (F2.out hfc).resolve_left hec
                  subst hfc h7
                  clear F1 F2 F3 hec hec1
                  go_wp2_with fail
                  go_ret
                  exact ⟨rfl, HF8.out.below⟩
                · have hfe := F3.out hfc
                  have hfc1 : (fc == 0) = false := by simpa using hfc
                  subst hfe
                  clear F1 F2 F3
                  go_wp2_with fail
                  go_loopw [102] (fun iv wr => ∃ k : Nat, k ≤ ops.length ∧ iv = .int .i64 k ∧ Forest W [] [] ([(v, Ef), (u, Eu)] ++ [(t, Ef)]) wr) (fun iv _ => ops.length - (intOf iv).toNat)
                  case atStart => exact ⟨0, Nat.zero_le _, rfl, HF8.out⟩
                  case round =>
                    obtain ⟨k, hk, rfl, hF⟩ := hrel
                    by_cases hkl : k < ops.length
                    · obtain ⟨o, ho, ⟨g, off, rfl, hr⟩, hops⟩ : ∃ o, o = ops[k] ∧ (∃ g off, a1 = some ⟨g, off, none⟩ ∧ wr.rangeAt g (off + k * 4) o.cells) ∧ o.p.size ≤ maxLen := ⟨_, rfl, (by
                        obtain ⟨g, off, e, hr⟩ := HO.out.at_ k hkl
                        exact ⟨g, off, e, range_later hF.below hr⟩), (HO.out.old k hkl).p⟩
                      have hb63 : (k : Int) < (ops.length : Int) := by exact_mod_cast hkl
                      have hol : ops.length ≤ 119 := Hg2.out
                      have Hkl := Lib.hid hkl
                      have Hr := Lib.hid hr
                      have HS := Lib.hid (Own.start wr)
                      have Hone := Lib.hid (op_one o)
                      have HFk := Lib.hid hF
                      have Hps := Lib.hid hops
                      clear hr hF ho hops
                      go_wp2_with (first
                        | (refine wpList_load_mid rfl 38 (.tmp 104) rfl g (off + k * 4) rfl o.cells _ Hr.out Tryz.underlying38 rfl (info_op _) ?_)
                        | (refine wpList_store_new rfl 38 (.tmp 17) (.tmp 105) rfl HS.out o.cells wr.heap.size rfl rfl rfl rfl (info_op _) Hone.out ?_))
                      intro w9 hO9 hlt9
                      have HF9 := Lib.hid (HFk.out.later hO9.below)
                      have HO9 := Lib.hid hO9
                      have d1 : w9.cell? ⟨wr.heap.size, 1, none⟩ = some (.string o.p) := Own.cell (h := hO9) 1 (by decide)
                      have hc1 := forest_find HF9.out (t := t) (E := Ef) (by simp) Hm.out o.p Hps.out
                      have hlater : ∀ w', Below w9.heap.size w9 w' → w'.cell? ⟨wr.heap.size, 1, none⟩ = some (.string o.p) := fun w' hb => Own.cell (h := HO9.out.later hb) 1 (by decide)
                      clear hO9 Hr HS Hone HFk
                      obtain ⟨S9, L9, T9, q1, q2, q3, q4⟩ := HF9.out.get (t := t) (E := Ef) (by simp)
                      have hf9 := find_any (q3.at_.inWorld q1) q3.good o.p Hps.out (HF9.out.mx Hm.out)
                      have e9 : findT T9 o.p.data.toList = findX Ef o.p.data.toList := by
                        unfold findT findX
                        rw [q4.walk q3.good.keys]
                      rw [e9] at hf9
                      clear q1 q2 q3 q4 e9 hc1
                      go_wp2_with fail
                      refine hf9.mono ?_
                      rintro e w10 ⟨rfl, hb10⟩
                      have HF10 := Lib.hid (HF9.out.later hb10)
                      have d10 := hlater w10 hb10
                      have hc2 := forest_find HF10.out (t := v) (E := Ef) (by simp) Hm.out o.p Hps.out
                      clear hf9 hb10 hlater HF9 HO9 d1
                      go_wp2_with fail
                      refine hc2.mono ?_
                      rintro e w11 ⟨rfl, hF11⟩
                      have HF11 := Lib.hid hF11
                      clear hc2 hF11 HF10 d10
                      generalize findX Ef o.p.data.toList = fx at *
                      have hne : ((fx.getD 0) != (fx.getD 0)) = false := by simp
                      go_wp2_with fail
                      go_roundw
                      case rel => exact ⟨k + 1, by have := Hkl.out; omega, by go_num, HF11.out⟩
                      case measure => have := Hkl.out; simp [intOf]; omega
                    · have hke : k = ops.length := by omega
                      subst hke
                      have hb63 : ¬ ((ops.length : Int) < (ops.length : Int)) := Int.lt_irrefl _
                      have hn1 := forest_nodes hF (t := t) (E := Ef) (by simp)
                      have HF9 := Lib.hid hF
                      clear hF
                      go_wp2_with fail
                      refine hn1.mono ?_
                      rintro e w9 ⟨rfl, rfl⟩
                      have hu1 := forest_used HF9.out (t := t) (E := Ef) (by simp) HI.out (by have := Hg.out; omega)
                      clear hn1
                      go_wp2_with fail
                      refine hu1.mono ?_
                      rintro e w10 ⟨rfl, hF10⟩
                      have HF10 := Lib.hid hF10
                      clear hu1 hF10 HF9
                      go_wp2_with fail
                      go_ret
                      exact ⟨by simp, HF10.out.below⟩
end Go.Proofs.YtdjoahhcmkedhaaGreatDoor
end

/- The world's shape gives the library's own bound. -/
section
namespace Go.Proofs.YtdjoahhcmkedhaaGreatDoor
open Go.RowKit
theorem mx_of {W : World} (h : W.ShapedOpen Tryz.prog) : Mx W := by
  obtain ⟨m, hm⟩ : ∃ m, W.cell? ⟨0, 0, none⟩ = some (.int .i64 m) := cell_of_shapedOpen_int (zero := #[.int .i64 0]) (t := 3) (k := .i64) h (of_decide_eq_true (by kernel_rfl)) (by kernel_rfl) rfl (by kernel_rfl) (by kernel_rfl) (by kernel_rfl)
  exact ⟨World.block_lt_of_cell? W _ hm, m, hm⟩
end Go.Proofs.YtdjoahhcmkedhaaGreatDoor
end
