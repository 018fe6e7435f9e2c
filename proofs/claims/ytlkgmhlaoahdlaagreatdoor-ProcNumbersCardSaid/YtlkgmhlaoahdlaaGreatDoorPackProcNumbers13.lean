/- Texts one behind the other, each in a section of its own: what calls make of memory, step by step. -/
import Derived.Test.YtlkgmhlaoahdlaaGreatDoorPackProcNumbers12
import Derived.Shelf.SlIter.Nil
import Derived.Shelf.SortM.Plain
import Derived.Shelf.SortM.SortNone
import Derived.Ground.GgzProg
import Derived.Ground.SlgmProg
import Derived.Test.YtlkgmhlaoahdlaaGreatDoorProg
import Derived.Lib.SliceRun
import Derived.Shelf.SlIterI.Nil

/- Loose. -/
section
namespace Go.Proofs.YtlkgmhlaoahdlaaGreatDoor
open Go.RowKit
open Go.ChangeMaps (setBlock)
set_option linter.unusedVariables false
set_option linter.unusedSimpArgs false
set_option maxRecDepth 100000

def looseL (l : List (Int × Nd)) : List Int := (l.filter fun p => p.2.loose).map (·.1)
theorem looseL_snoc (l : List (Int × Nd)) (p : Int × Nd) : looseL (l ++ [p]) = looseL l ++ (if p.2.loose then [p.1] else []) := by
  unfold looseL
  rw [List.filter_append, List.map_append]
  cases h : p.2.loose <;> simp [h]
theorem looseL_len (l : List (Int × Nd)) : (looseL l).length ≤ l.length := by
  unfold looseL
  rw [List.length_map]
  exact List.length_filter_le _ _
theorem info_i : (Tryz.prog.info? 3).map (fun i => (i.zero, i.size, i.bytes)) = some (some (.int .i64 0), 1, 8) := by kernel_rfl
def LooseRel (w : World) (T : Tr) (v : Value) (wr : World) : Prop :=
  ∃ oi o done left, WalksR w w.heap.size T oi o done left wr ∧ Own ⟨w, [(w.heap.size, oi)]⟩ wr [rowI v (looseL done)]
def LoosePost (w : World) (T : Tr) (e : Ending) (w' : World) : Prop := ∃ (v : Value) (zs : List Int), e = .returned v ∧ zs.Perm (looseL T.nodes) ∧ Own w w' [rowI v (zs.mergeSort fun x y => decide (x ≤ y))]
set_option maxHeartbeats 2000000 in
theorem loose_t {w : World} {D : Value → List Int → Prop} {t : Nat} {T : Tr} (H : TreeIn (inW w) D t T) (hn : T.nodes.length ≤ 4294967296) :
    Calls Tryz.prog 35 #[.pointer (some ⟨t, 0, none⟩)] w (LoosePost w T) := by
  obtain ⟨i0, hi, hz0, hz1, hz2⟩ := info_parts info_i
  obtain ⟨_, _, c2⟩ := H.at0
  obtain ⟨oi, o, hrun, hW⟩ := Walks.start H
  have hWR : WalksR w w.heap.size T oi o [] T.nodes (w.alloc oi) := ⟨hW.1, hW.2.1, hW.2.2.1, hW.2.2.2.1, hW.2.2.2.2, Nat.le_refl _⟩
  have HW := Lib.hid (show LooseRel w T (.slice none 0 0) (w.alloc oi) from ⟨oi, o, [], T.nodes, hWR, ((Own.start w).newB oi).nil 3 1⟩)
  have HH := Lib.hid H
  clear H hW hWR
  go_enter Tryz.func35, Tryz.ntmps35
  go_wp2_with fail
  go_loopw [3] (fun s wr => LooseRel w T s wr) (fun _ wr => leftN wr T.bm w.heap.size)
  case atStart => exact HW.out
  case round =>
    obtain ⟨oi2, o2, done, left, hW, hO⟩ := hrel
    have hle := hW.left_eq
    have hperm := hW.2.2.2.1
    have hlen2 : done.length ≤ 4294967296 := by have := hperm.length_eq; rw [List.length_append] at this; omega
    have hll : (looseL done).length ≤ 4294967296 := Nat.le_trans (looseL_len done) hlen2
    rcases hW.next with ⟨rfl, hnx⟩ | ⟨l1, l2, p, oi', w1, rfl, hw1, hnx, hW', hp, hen⟩
    · have hO2 : Own ⟨w, []⟩ wr [rowI u3 (looseL done)] := hO.forget (S' := []) (fun m hm => by cases hm)
      have hs := sort_row hO2 (by omega)
      have hper : (looseL done).Perm (looseL T.nodes) := by
        simp only [List.append_nil] at hperm
        exact (hperm.filter _).map _
      obtain ⟨fa, fc, hf, _, _⟩ := Own.sized (h := (show Own ⟨w, []⟩ wr (⟨3, 1, u3, (looseL done).length, (looseL done).map (Value.int .i64)⟩ :: []) from hO2))
      have HP := Lib.hid hper
      clear hW hle hperm hO hO2 hlen2 hll hper hrun
      subst hf
      go_wp2_with (go_at_call 41; refine hs.mono ?_; rintro e w3 ⟨rfl, hO3⟩; have HO3 := Lib.hid hO3; clear hO3)
      go_ret
      exact ⟨_, _, rfl, HP.out, HO3.out⟩
    · have hr : ∀ oi2, ((w.heap.size, oi2) : Nat × Obj) ∈ [(w.heap.size, oi2)] := fun _ => List.mem_cons_self ..
      have hO1 : Own ⟨w, [(w.heap.size, oi2)]⟩ w1 [rowI u3 (looseL done)] := by rcases hw1 with rfl | rfl; exact hO; exact hO.drew
      have hO2 : Own ⟨w, [(w.heap.size, oi')]⟩ (setBlock w1 w.heap.size oi') [rowI u3 (looseL done)] := by
        have := hO1.setB (hr _) oi'
        simpa [upd] using this
      have hN := (hW'.tree HH.out).node p hp
      have hlo := loose_any hN
      obtain ⟨e1, e2⟩ := hW'.entry
      have hent := hen _ e1 e2
      have hl2 := hW'.left_eq
      have hmeas : (l1 ++ l2).length < leftN wr T.bm w.heap.size := by rw [hle]; simp
      have hsn := looseL_snoc done p
      generalize hw2 : setBlock w1 w.heap.size oi' = w2 at *
      obtain ⟨fa, fc, hf, _, _⟩ := Own.sized (h := (show Own ⟨w, [(w.heap.size, oi')]⟩ w2 (⟨3, 1, u3, (looseL done).length, (looseL done).map (Value.int .i64)⟩ :: []) from hO2))
      have HN := Lib.hid hW'
      have hf' : u3 = .slice fa (looseL done).length fc := hf
      clear hf
      subst hf'
      rcases Bool.eq_false_or_eq_true p.2.loose with hlz | hlz
      · rw [hlz] at hlo hsn
        simp only [if_true] at hsn
        have hb1 : (looseL done).length + 1 ≤ maxLen := by unfold maxLen; omega
        have hb2 : ((looseL done).length + 1) * 8 ≤ 140737488355328 := by omega
        have HO2 := Lib.hid (show Own ⟨w, [(w.heap.size, oi')]⟩ (w2.alloc (.cells #[.int .i64 p.1] 3)) (⟨3, 1, .slice fa (looseL done).length fc, (looseL done).length, (looseL done).map (Value.int .i64)⟩ :: []) from hO2.alloc _)
        have hsrc : Src (w2.alloc (.cells #[.int .i64 p.1] 3)) (.slice (some ⟨w2.heap.size, 0, none⟩) 1 1) 1 [.int .i64 p.1] := by
          refine .inr ⟨_, _, rfl, fun j u hj => ?_, fun u hu => by rw [List.mem_singleton.1 hu]; rfl⟩
          rw [Addr.add_mid, Nat.zero_add, World.cell?_alloc_new]
          simpa using hj
        have Hsrc := Lib.hid hsrc
        have Hb1 := Lib.hid hb1
        have Hb2 := Lib.hid hb2
        have Hm := Lib.hid hmeas
        have Hsn := Lib.hid hsn
        clear hO hO1 hO2 hW hW' hle hperm hN e1 e2 hen hl2 hsn hsrc hb1 hb2 hmeas hll hlen2 hw1 hlz hw2 hrun
        go_wp2_with (first
          | (go_at_call 62; refine hlo.mono ?_; rintro e w' ⟨rfl, rfl⟩)
          | (at_builtin; refine wpList_append_src rfl (.tmp 18) (.tmp 20) 22 rfl (.slice fa (looseL done).length fc) (looseL done).length ((looseL done).map (Value.int .i64)) (.slice (some ⟨w2.heap.size, 0, none⟩) 1 1) 1 [.int .i64 p.1] rfl rfl HO2.out i0 (.int .i64 0) 8 Tryz.underlying22 hi hz0 hz1 hz2 rfl (by decide) Hsrc.out (by simp) Hb1.out Hb2.out ?_))
        intro v4 w4 hO4
        have HR := Lib.hid (show LooseRel w T v4 w4 ∧ leftN w4 T.bm w.heap.size < leftN wr T.bm w.heap.size from by
          have hO5 : Own ⟨w, [(w.heap.size, oi')]⟩ w4 [rowI v4 (looseL (done ++ [p]))] := by
            rw [Hsn.out]
            unfold rowI
            rw [List.length_append, List.map_append]
            exact hO4
          have hB : Below w.heap.size w w4 := hO4.below
          have hW4 : WalksR w w.heap.size T oi' o2 (done ++ [p]) (l1 ++ l2) w4 := ⟨hO4.at (List.mem_cons_self ..), HN.out.2.1, HN.out.2.2.1, HN.out.2.2.2.1, hB, Nat.le_refl _⟩
          exact ⟨⟨oi', o2, _, _, hW4, hO5⟩, by rw [hW4.left_eq]; exact Hm.out⟩)
        obtain ⟨a4, c4, hv4, _, _⟩ := Own.sized (h := hO4)
        subst hv4
        clear hO4 HO2 Hsrc Hb1 Hb2 Hm Hsn HN
        go_wp2_with fail
        go_roundw
        case rel => exact HR.out.1
        case measure => exact HR.out.2
      · rw [hlz] at hlo hsn
        simp only [Bool.false_eq_true, if_false, List.append_nil] at hsn
        have HX := Lib.hid (show LooseRel w T (.slice fa (looseL done).length fc) w2 from ⟨oi', o2, _, _, hW', by rw [hsn]; exact hO2⟩)
        have HL := Lib.hid (show leftN w2 T.bm w.heap.size < leftN wr T.bm w.heap.size by rw [hl2]; exact hmeas)
        clear hO hO1 hO2 hW hW' hle hperm hN e1 e2 hen hl2 hsn hmeas hll hlen2 hw1 hlz hw2 HN hrun
        go_wp2_with (go_at_call 62; refine hlo.mono ?_; rintro e w' ⟨rfl, rfl⟩)
        go_roundw
        case rel => exact HX.out
        case measure => exact HL.out
end Go.Proofs.YtlkgmhlaoahdlaaGreatDoor
end

/- Contracts of Go's library at this dump: slices.Sorted(maps.Keys(m)). -/
section
namespace Go.Proofs
open Go.Shelf
def Tryz.keys178_ren : Go.Shelf.Ren := ⟨fun | 7 => 178 | 10 => 192 | n => n, fun | 23 => 28 | 26 => 9 | 3 => 3 | 28 => 244 | 0 => 0 | 27 => 243 | 33 => 107 | 4 => 4 | n => n, fun | n => n⟩
theorem Tryz.keys178 : Go.Proofs.SlLaysZ.n7 Tryz.prog Tryz.keys178_ren := {
  mixed := by kernel_rfl
  f7 := ⟨Tryz.f178.name, by decide, Tryz.func178.trans (congrArg some (by kernel_rfl))⟩
  f10 := ⟨Tryz.f192.name, by decide, Tryz.func192.trans (congrArg some (by kernel_rfl))⟩
  t0 := Tryz.underlying0
  a0 := Tryz.isAgg0
  z0 := Tryz.sizeOf0
  v0 := Tryz.zeroValue0
  t4 := Tryz.underlying4
  a4 := Tryz.isAgg4
  z4 := Tryz.sizeOf4
  v4 := Tryz.zeroValue4
  t23 := Tryz.underlying28
  a23 := Tryz.isAgg28
  z23 := Tryz.sizeOf28
  v23 := Tryz.zeroValue28
  t26 := Tryz.underlying9
  a26 := Tryz.isAgg9
  z26 := Tryz.sizeOf9
  v26 := Tryz.zeroValue9
  t27 := Tryz.underlying243
  a27 := Tryz.isAgg243
  z27 := Tryz.sizeOf243
  v27 := Tryz.zeroValue243
  t28 := Tryz.underlying244
  a28 := Tryz.isAgg244
  z28 := Tryz.sizeOf244
  v28 := Tryz.zeroValue244
  t33 := Tryz.underlying107
  a33 := Tryz.isAgg107
  z33 := Tryz.sizeOf107
  v33 := Tryz.zeroValue107 }
def Tryz.sorted177_ren : Go.Shelf.Ren := ⟨fun | 6 => 177 | 8 => 190 | 9 => 191 | 11 => 199 | 13 => 69 | 12 => 200 | 23 => 118 | 24 => 119 | 14 => 203 | 15 => 204 | 16 => 205 | 17 => 206 | 18 => 207 | 19 => 208 | 20 => 209 | 21 => 210 | 22 => 211 | 25 => 213 | 26 => 158 | 27 => 159 | 28 => 214 | 29 => 215 | 30 => 216 | 31 => 217 | n => n, fun | 26 => 9 | 28 => 244 | 24 => 29 | 0 => 0 | 3 => 3 | 37 => 33 | 48 => 183 | 50 => 95 | 4 => 4 | 40 => 176 | 39 => 175 | 45 => 37 | 5 => 5 | 9 => 9 | 51 => 224 | 55 => 228 | 57 => 247 | 58 => 248 | 33 => 107 | n => n, fun | n => n⟩
theorem Tryz.sorted177 : Go.Proofs.SlLaysZ.n6 Tryz.prog Tryz.sorted177_ren := {
  mixed := by kernel_rfl
  f6 := ⟨Tryz.f177.name, by decide, Tryz.func177.trans (congrArg some (by kernel_rfl))⟩
  f8 := ⟨Tryz.f190.name, by decide, Tryz.func190.trans (congrArg some (by kernel_rfl))⟩
  f11 := ⟨Tryz.f199.name, by decide, Tryz.func199.trans (congrArg some (by kernel_rfl))⟩
  t0 := Tryz.underlying0
  a0 := Tryz.isAgg0
  z0 := Tryz.sizeOf0
  v0 := Tryz.zeroValue0
  t24 := Tryz.underlying29
  a24 := Tryz.isAgg29
  z24 := Tryz.sizeOf29
  v24 := Tryz.zeroValue29
  t26 := Tryz.underlying9
  a26 := Tryz.isAgg9
  z26 := Tryz.sizeOf9
  v26 := Tryz.zeroValue9
  t28 := Tryz.underlying244
  a28 := Tryz.isAgg244
  z28 := Tryz.sizeOf244
  v28 := Tryz.zeroValue244
  i26 := by kernel_rfl }
def Tryz.sort191_ren : Go.Shelf.Ren := ⟨fun | 6 => 191 | 8 => 69 | 9 => 200 | 19 => 118 | 20 => 119 | 21 => 203 | 22 => 204 | 23 => 205 | 24 => 206 | 25 => 207 | 26 => 208 | 27 => 209 | 28 => 210 | 29 => 211 | 36 => 213 | 31 => 158 | 32 => 159 | 37 => 214 | 38 => 215 | 39 => 216 | 41 => 217 | n => n, fun | 27 => 29 | 29 => 9 | 3 => 3 | 32 => 33 | 26 => 29 | 0 => 0 | 44 => 183 | 46 => 95 | 4 => 4 | 36 => 176 | 35 => 175 | 41 => 37 | 5 => 5 | 9 => 9 | 53 => 224 | 57 => 228 | 63 => 247 | 64 => 248 | n => n, fun | n => n⟩
theorem Tryz.sort191 : Go.Proofs.SlLaysM.n6 Tryz.prog Tryz.sort191_ren := {
  mixed := by kernel_rfl
  f6 := ⟨Tryz.f191.name, by decide, Tryz.func191.trans (congrArg some (by kernel_rfl))⟩
  f8 := Tryz.func69.trans (congrArg some (by kernel_rfl))
  f9 := ⟨Tryz.f200.name, by decide, Tryz.func200.trans (congrArg some (by kernel_rfl))⟩
  f19 := Tryz.func118.trans (congrArg some (by kernel_rfl))
  f20 := Tryz.func119.trans (congrArg some (by kernel_rfl))
  f21 := ⟨Tryz.f203.name, by decide, Tryz.func203.trans (congrArg some (by kernel_rfl))⟩
  f22 := ⟨Tryz.f204.name, by decide, Tryz.func204.trans (congrArg some (by kernel_rfl))⟩
  f23 := ⟨Tryz.f205.name, by decide, Tryz.func205.trans (congrArg some (by kernel_rfl))⟩
  f24 := ⟨Tryz.f206.name, by decide, Tryz.func206.trans (congrArg some (by kernel_rfl))⟩
  f25 := ⟨Tryz.f207.name, by decide, Tryz.func207.trans (congrArg some (by kernel_rfl))⟩
  f26 := ⟨Tryz.f208.name, by decide, Tryz.func208.trans (congrArg some (by kernel_rfl))⟩
  f27 := ⟨Tryz.f209.name, by decide, Tryz.func209.trans (congrArg some (by kernel_rfl))⟩
  f28 := ⟨Tryz.f210.name, by decide, Tryz.func210.trans (congrArg some (by kernel_rfl))⟩
  f29 := ⟨Tryz.f211.name, by decide, Tryz.func211.trans (congrArg some (by kernel_rfl))⟩
  f31 := Tryz.func158.trans (congrArg some (by kernel_rfl))
  f32 := Tryz.func159.trans (congrArg some (by kernel_rfl))
  f36 := ⟨Tryz.f213.name, by decide, Tryz.func213.trans (congrArg some (by kernel_rfl))⟩
  f37 := ⟨Tryz.f214.name, by decide, Tryz.func214.trans (congrArg some (by kernel_rfl))⟩
  f38 := ⟨Tryz.f215.name, by decide, Tryz.func215.trans (congrArg some (by kernel_rfl))⟩
  f39 := ⟨Tryz.f216.name, by decide, Tryz.func216.trans (congrArg some (by kernel_rfl))⟩
  f41 := ⟨Tryz.f217.name, by decide, Tryz.func217.trans (congrArg some (by kernel_rfl))⟩
  t0 := Tryz.underlying0
  a0 := Tryz.isAgg0
  z0 := Tryz.sizeOf0
  v0 := Tryz.zeroValue0
  t3 := Tryz.underlying3
  a3 := Tryz.isAgg3
  z3 := Tryz.sizeOf3
  v3 := Tryz.zeroValue3
  t4 := Tryz.underlying4
  a4 := Tryz.isAgg4
  z4 := Tryz.sizeOf4
  v4 := Tryz.zeroValue4
  t5 := Tryz.underlying5
  a5 := Tryz.isAgg5
  z5 := Tryz.sizeOf5
  v5 := Tryz.zeroValue5
  t9 := Tryz.underlying9
  a9 := Tryz.isAgg9
  z9 := Tryz.sizeOf9
  v9 := Tryz.zeroValue9
  t26 := Tryz.underlying29
  a26 := Tryz.isAgg29
  z26 := Tryz.sizeOf29
  v26 := Tryz.zeroValue29
  t27 := Tryz.underlying29
  a27 := Tryz.isAgg29
  z27 := Tryz.sizeOf29
  v27 := Tryz.zeroValue29
  t29 := Tryz.underlying9
  a29 := Tryz.isAgg9
  z29 := Tryz.sizeOf9
  v29 := Tryz.zeroValue9
  t32 := Tryz.underlying33
  a32 := Tryz.isAgg33
  z32 := Tryz.sizeOf33
  v32 := Tryz.zeroValue33
  t35 := Tryz.underlying175
  a35 := Tryz.isAgg175
  z35 := Tryz.sizeOf175
  v35 := Tryz.zeroValue175
  t36 := Tryz.underlying176
  a36 := Tryz.isAgg176
  z36 := Tryz.sizeOf176
  v36 := Tryz.zeroValue176
  t41 := Tryz.underlying37
  a41 := Tryz.isAgg37
  z41 := Tryz.sizeOf37
  v41 := Tryz.zeroValue37
  t44 := Tryz.underlying183
  a44 := Tryz.isAgg183
  z44 := Tryz.sizeOf183
  v44 := Tryz.zeroValue183
  t46 := Tryz.underlying95
  a46 := Tryz.isAgg95
  z46 := Tryz.sizeOf95
  v46 := Tryz.zeroValue95
  t53 := Tryz.underlying224
  a53 := Tryz.isAgg224
  z53 := Tryz.sizeOf224
  v53 := Tryz.zeroValue224
  t57 := Tryz.underlying228
  a57 := Tryz.isAgg228
  z57 := Tryz.sizeOf228
  v57 := Tryz.zeroValue228
  t63 := Tryz.underlying247
  a63 := Tryz.isAgg247
  z63 := Tryz.sizeOf247
  v63 := Tryz.zeroValue247
  t64 := Tryz.underlying248
  a64 := Tryz.isAgg248
  z64 := Tryz.sizeOf248
  v64 := Tryz.zeroValue248 }
open Go.RowKit Go.Maps Go.Sort Go.Shelf
theorem Tryz.sorts177 (m : Nat) : AnyZ.SortsIn Tryz.prog Tryz.sorted177_ren Fence.wide m :=
  ⟨fun blk off cap ss W hH hblk hsz => callsIn_wide.2 (AnyM.slices_Sort_string Tryz.sort191 blk off cap ss W hH hblk hsz),
   fun p cap W => callsIn_wide.2 (AnyM.slices_Sort_string_none Tryz.sort191 p cap W)⟩
theorem Tryz.maps_Keys_178 (mb : Option Nat) (W : World) : CallsIn Fence.wide 5 Tryz.prog 178 #[.map mb] W fun e w' => e = .returned (.func (.func 192) #[] #[.pointer (some ⟨W.heap.size, 0, none⟩)]) ∧ w' = W.alloc (.cells #[.map mb] 28) :=
  AnyZ.keys_in Tryz.keys178 Fence.wide 5 trivial rfl mb W
set_option maxHeartbeats 1000000 in
theorem Tryz.slices_Sorted_keys_177_178 {H : Type} (b nn : Nat) (D0 : DataW H) (R : Value → Option (DataW H × List MemPlace)) (w : World) (hown : w.ownsMap Tryz.prog 9 R b nn D0) (hmax : Maps.size D0 ≤ maxLen) (hbytes : Maps.size D0 * 16 ≤ 140737488355328) :
    CallsIn Fence.wide 5 Tryz.prog 177 #[.func (.func 192) #[] #[.pointer (some ⟨w.heap.size, 0, none⟩)]] (w.alloc (.cells #[.map (some b)] 28)) fun e w' => ∃ (v : Value) (ss : List (List UInt8)), e = .returned v ∧ ss.Perm (strKeys D0) ∧
      w'.ownsRow (w.alloc (.cells #[.map (some b)] 28)).heap.size 9 1 v ss.length ((ss.mergeSort (fun x y => decide (x ≤ y))).map encStr) ∧ (v = .slice none 0 0 ↔ ss = []) ∧ Below (w.alloc (.cells #[.map (some b)] 28)).heap.size (w.alloc (.cells #[.map (some b)] 28)) w' := by
  have hbl := hown.lt
  have hseq : SeqGives Fence.wide 2 Tryz.prog 192 #[.pointer (some ⟨w.heap.size, 0, none⟩)] encStr (fun ss => ss.Perm (strKeys D0)) (Maps.size D0) (w.alloc (.cells #[.map (some b)] 28)) :=
    AnyZ.keys_gives (ρ := Tryz.keys178_ren) { Tryz.keys178 with } Fence.wide _ trivial rfl (by omega) w.heap.size b nn D0 _ (by simp) (by simp) (by
      obtain ⟨es, clock, hb, Ft, hs, hD⟩ := hown
      exact ⟨es, clock, (Below.heap_alloc _ _ b hbl).trans hb, Ft, hs, hD⟩)
  exact AnyZ.sorted_in Tryz.sorted177 Fence.wide 5 trivial trivial trivial trivial rfl (by omega) (Tryz.sorts177 _) (enters_of Tryz.func191 (by kernel_rfl) rfl) 192 #[.pointer (some ⟨w.heap.size, 0, none⟩)] trivial (enters_of Tryz.func192 (by kernel_rfl) rfl) _ _ hmax hbytes _ hseq
set_option maxHeartbeats 1000000 in
theorem Tryz.slices_Sorted_keys_nil_177_178 (w : World) :
    CallsIn Fence.wide 5 Tryz.prog 177 #[.func (.func 192) #[] #[.pointer (some ⟨w.heap.size, 0, none⟩)]] (w.alloc (.cells #[.map none] 28)) fun e w' => ∃ (v : Value) (ss : List (List UInt8)), e = .returned v ∧ ss = [] ∧
      w'.ownsRow (w.alloc (.cells #[.map none] 28)).heap.size 9 1 v ss.length ((ss.mergeSort (fun x y => decide (x ≤ y))).map encStr) ∧ (v = .slice none 0 0 ↔ ss = []) ∧ Below (w.alloc (.cells #[.map none] 28)).heap.size (w.alloc (.cells #[.map none] 28)) w' := by
  have hseq : SeqGives Fence.wide 2 Tryz.prog 192 #[.pointer (some ⟨w.heap.size, 0, none⟩)] encStr (fun ss : List (List UInt8) => ss = []) 0 (w.alloc (.cells #[.map none] 28)) :=
    AnyZ.keys_gives_nil (ρ := Tryz.keys178_ren) { Tryz.keys178 with } Fence.wide _ trivial rfl w.heap.size _ (by simp) (by simp)
  exact AnyZ.sorted_in Tryz.sorted177 Fence.wide 5 trivial trivial trivial trivial rfl (by omega) (Tryz.sorts177 _) (enters_of Tryz.func191 (by kernel_rfl) rfl) 192 #[.pointer (some ⟨w.heap.size, 0, none⟩)] trivial (enters_of Tryz.func192 (by kernel_rfl) rfl) _ 0 (Nat.zero_le _) (by omega) _ hseq
end Go.Proofs
end

/- A directory's names in order: what the kit's contracts ask of a map. -/
section
namespace Go.Proofs.YtlkgmhlaoahdlaaGreatDoor
open Go.RowKit Go.Maps
open Go.ChangeMaps (setBlock)
open Go.WideElems (Fit rd rg)
set_option linter.unusedVariables false
set_option linter.unusedSimpArgs false
set_option maxRecDepth 100000

abbrev noR : Value → Option (DataW Unit × List MemPlace) := fun _ => some (.nil, [])
def sOf (v : Value) : List UInt8 := match v with
  | .string s => s.data.toList
  | _ => []
theorem owns_of {w : World} {b : Nat} {o : Obj} {kids : List (ByteArray × Int)} (h : MapO KS o (kidsV kids)) (hb : w.heap[b]? = some o) (hd : (kids.map (·.1)).Nodup) (hs : ∀ p ∈ kids, p.1.size ≤ maxLen) (hn : kids.length ≤ maxLen) :
    ∃ D0 : DataW Unit, w.ownsMap Tryz.prog 9 noR b kids.length D0 ∧ (strKeys D0).Perm (kids.map fun p => p.1.data.toList) ∧ Maps.size D0 = kids.length := by
  obtain ⟨es, clock, rfl, h1, h2, h3⟩ := h
  have hk : es.toList.map (·.key) = kids.map fun p => KS p.1 := by
    have := congrArg (List.map (·.1)) h1
    rw [List.map_map, List.map_map] at this
    rw [show es.toList.map (·.key) = es.toList.map ((fun p : Value × Value => p.1) ∘ fun e => (e.key, e.val)) from rfl, this]
    unfold kidsV
    rw [List.map_map]; rfl
  have hsz : es.size = kids.length := by
    have := congrArg List.length hk
    simpa using this
  have hkey : ∀ x ∈ es.toList, ∃ s : ByteArray, x.key = .string s ∧ s.size ≤ maxLen := fun x hx => by
    have : x.key ∈ kids.map fun p => KS p.1 := by rw [← hk]; exact List.mem_map.2 ⟨x, hx, rfl⟩
    obtain ⟨p, hp, e⟩ := List.mem_map.1 this
    exact ⟨p.1, e.symm, hs p hp⟩
  have hrd : ∀ x ∈ es.toList, rd Tryz.prog 9 noR x = some (.string (sOf x.key), .nil) := fun x hx => by
    obtain ⟨s, e, hs⟩ := hkey x hx
    unfold rd
    rw [e, Go.WideMaps.keyOf_string_mk Tryz.underlying9 hs]; rfl
  refine ⟨_, ⟨es, clock, hb, ⟨by omega, ⟨h3, h2, ?_⟩, fun x hx => ⟨_, hrd x hx⟩⟩, by omega, rfl⟩, ?_, ?_⟩
  · rw [hk]
    have : (kids.map fun p => KS p.1) = (kids.map (·.1)).map KS := by rw [List.map_map]; rfl
    rw [this]
    exact hd.map (f := KS) (fun a b hne e => hne (by injection e))
  · have hp := (Go.WideShapes.sorted_perm (es.toList.map (rg Tryz.prog 9 noR))).map (fun p => strOf p.1)
    refine List.Perm.trans hp ?_
    rw [List.map_map]
    have e1 : es.toList.map ((fun p : Lit × DataW Unit => strOf p.1) ∘ rg Tryz.prog 9 noR) = es.toList.map fun x => sOf x.key := List.map_congr_left fun x hx => by
      simp only [Function.comp, rg, hrd x hx]; rfl
    rw [e1, show (es.toList.map fun x => sOf x.key) = (es.toList.map (·.key)).map sOf by rw [List.map_map]; rfl, hk, List.map_map]
    exact List.Perm.refl _
  · rw [Maps.size_eq, Go.length_sorted, List.length_map]
    simpa using hsz
end Go.Proofs.YtlkgmhlaoahdlaaGreatDoor
end

/- List, of a directory. -/
section
namespace Go.Proofs.YtlkgmhlaoahdlaaGreatDoor
open Go.RowKit Go.Maps Go.Shelf
open Go.ChangeMaps (setBlock)
set_option linter.unusedVariables false
set_option linter.unusedSimpArgs false
set_option maxRecDepth 100000

end Go.Proofs.YtlkgmhlaoahdlaaGreatDoor
end

/- Do of operations that the caller has written out; what is asked of a tree behind it. -/
section
namespace Go.Proofs.YtlkgmhlaoahdlaaGreatDoor
open Go.RowKit
open Go.ChangeMaps (setBlock)
set_option linter.unusedVariables false
set_option linter.unusedSimpArgs false
set_option maxRecDepth 100000

theorem flat4 (ls : List (List Value)) (h : ∀ l ∈ ls, l.length = 4) (i : Nat) (hi : i < ls.length) (j : Nat) (hj : j < 4) : ls.flatten[i * 4 + j]? = ls[i][j]? := by
  induction ls generalizing i with
  | nil => simp at hi
  | cons l r ih =>
    have hl := h l (List.mem_cons_self ..)
    rw [List.flatten_cons]
    cases i with
    | zero =>
      rw [Nat.zero_mul, Nat.zero_add, List.getElem?_append_left (by omega)]; rfl
    | succ i =>
      rw [List.getElem?_append_right (by omega), show (i + 1) * 4 + j - l.length = i * 4 + j by omega]
      exact ih (fun x hx => h x (List.mem_cons_of_mem _ hx)) i (by simpa using hi)
theorem OpIn.mono {w0 : World} {S S' : Blocks} {L : List Rw} {o : OpD} {x : OpE} (h : OpIn w0 S L o x) (hs : ∀ b x, (b, x) ∈ S → (b, x) ∈ S') : OpIn w0 S' L o x :=
  ⟨h.kind, h.l, h.l2, h.p, h.q, h.n, h.data.mono hs (fun _ _ _ h => h) (fun _ h => h)⟩
/-- A tree of the law's, as plain data. -/
def Live (w0 : World) (L : List Rw) (t : Nat) (E : Et) (w : World) : Prop := ∃ S L' T, Own ⟨w0, S⟩ w L' ∧ (∀ x ∈ L, x ∈ L') ∧ Tree S (Pc L') t T ∧ Rep T E
theorem do_lit {w0 w : World} {S : Blocks} {L : List Rw} {t : Nat} {T : Tr} {E E' : Et} (hO : Own ⟨w0, S⟩ w L) (H : Tree S (Pc L) t T) (hR : Rep T E) (hmx : Mx w0) (ops : List OpD) (xs : List OpE) (C : Array Value) (hC : C.toList = (ops.map OpD.cells).flatten) (cap : Nat) (hlen : xs.length = ops.length) (hn : ops.length ≤ 1000000)
    (hin : ∀ i (h : i < ops.length), OpIn w0 S L ops[i] (xs[i]'(by omega)))
    (hE : doAllE E xs = some E') (h1 : 2 ≤ E.next) (h2 : E.next ≤ 900000000) (h3 : E'.nodes.length ≤ 128) (h4 : (sumE E'.nodes : Int) ≤ E'.quota) (h5 : sumE E'.nodes ≤ 1000000000) :
    Calls Tryz.prog 31 #[.pointer (some ⟨t, 0, none⟩), .slice (some ⟨w.heap.size, 0, none⟩) ops.length cap] (w.alloc (.cells C 63)) fun e w' => e = .returned (.int .i64 0) ∧ Live w0 L t E' w' := by
  have hO1 := hO.newB (.cells C 63)
  have H1 := H.mono (D2 := Pc L) (S2 := (w.heap.size, .cells C 63) :: S) (fun b x _ hx => List.mem_cons_of_mem _ hx) (fun _ _ h => h)
  refine (Do_ok hO1 H1 hR hmx w.heap.size 0 ops xs cap hlen hn (fun w' S' L' k1 k2 i hi => ?_) (fun i hi => (hin i hi).mono fun b x hb => List.mem_cons_of_mem _ hb) hE h1 h2 h3 h4 h5).mono fun e w' hd => ?_
  · intro j v hv
    have hc := k1.cellB (k2 _ _ (List.mem_cons_self ..)) (0 + i * 4 + j)
    rw [hc]
    have hj : j < 4 := by
      have := (List.getElem?_eq_some_iff.1 hv).1
      simpa [OpD.cells, opL] using this
    rw [← Array.getElem?_toList, hC, Nat.zero_add, flat4 _ (fun l hl => by
      obtain ⟨o, _, rfl⟩ := List.mem_map.1 hl
      rfl) i (by simpa using hi) j hj, List.getElem_map]
    exact hv
  · obtain ⟨S', L', T', e1, e2, e3, e4, e5, e6⟩ := hd
    exact ⟨e1, S', L', T', e2, e3, e4, e6⟩
end Go.Proofs.YtlkgmhlaoahdlaaGreatDoor
end

/- What is asked of a tree, against the plain state. -/
section
namespace Go.Proofs.YtlkgmhlaoahdlaaGreatDoor
open Go.RowKit
open Go.ChangeMaps (setBlock)
set_option linter.unusedVariables false
set_option linter.unusedSimpArgs false
set_option maxRecDepth 100000

theorem Live.later {w0 w w' : World} {L : List Rw} {t : Nat} {E : Et} (h : Live w0 L t E w) (hb : Below w.heap.size w w') : Live w0 L t E w' := by
  obtain ⟨S, L', T, h1, h2, h3, h4⟩ := h
  exact ⟨S, L', T, h1.later hb, h2, h3, h4⟩
theorem Live.join {w0 w w' : World} {L M : List Rw} {t : Nat} {E : Et} (h : Live w0 L t E w) (hM : Own w w' M) : Live w0 (M ++ L) t E w' := by
  obtain ⟨S, L', T, h1, h2, h3, h4⟩ := h
  refine ⟨S, M ++ L', T, h1.join hM, fun x hx => ?_, h3.mono (fun b x _ hx => hx) (fun v zs h => h.mono fun r hr => List.mem_append_right _ hr), h4⟩
  rcases List.mem_append.1 hx with hx | hx
  · exact List.mem_append_left _ hx
  · exact List.mem_append_right _ (h2 x hx)
theorem Live.less {w0 w : World} {L M : List Rw} {t : Nat} {E : Et} (h : Live w0 L t E w) (hs : ∀ x ∈ M, x ∈ L) : Live w0 M t E w := by
  obtain ⟨S, L', T, h1, h2, h3, h4⟩ := h
  exact ⟨S, L', T, h1, fun x hx => h2 x (hs x hx), h3, h4⟩
theorem Live.mx {w0 w : World} {L : List Rw} {t : Nat} {E : Et} (h : Live w0 L t E w) (hm : Mx w0) : Mx w := by
  obtain ⟨S, L', T, h1, _⟩ := h
  exact hm.later h1.below
theorem Live.by {w0 w : World} {L : List Rw} {t : Nat} {E : Et} (h : Live w0 L t E w) {v : Value} {zs : List Int} (hr : rowU v zs ∈ L) (hz : Byts zs) : By w v zs := by
  obtain ⟨S, L', T, h1, h2, _⟩ := h
  exact (h1.only (h2 _ hr)).by hz
def standE (E : Et) (l : List UInt8) : Option ENd := (if okP l then walkE E 1 (namesL l) else none).bind fun i => look E.nodes i
theorem Rep.stand {T : Tr} {E : Et} (h : Rep T E) (hd : (T.nodes.map (·.1)).Nodup) (l : List UInt8) : (standT T l).map Nd.er = standE E l := by
  unfold standT standE findT
  cases hk : okP l with
  | false => rfl
  | true =>
    simp only [if_true]
    rw [h.walk hd]
    cases walkE E 1 (namesL l) with
    | none => rfl
    | some i => exact h.look hd i
theorem live_used {w0 w : World} {L : List Rw} {t : Nat} {E : Et} (h : Live w0 L t E w) (hu : sumE E.nodes ≤ 1000000000) :
    Calls Tryz.prog 97 #[.pointer (some ⟨t, 0, none⟩)] w fun e w' => e = .returned (.int .i64 (sumE E.nodes : Nat)) ∧ Live w0 L t E w' := by
  have hh := h
  obtain ⟨S, L', T, h1, h2, h3, h4⟩ := h
  have := used_any (h3.at_.inWorld h1) (by rw [h4.sum]; exact hu)
  rw [h4.sum] at this
  exact this.mono fun e w' hr => ⟨hr.1, hh.later hr.2⟩
theorem live_nodes {w0 w : World} {L : List Rw} {t : Nat} {E : Et} (h : Live w0 L t E w) :
    Calls Tryz.prog 96 #[.pointer (some ⟨t, 0, none⟩)] w fun e w' => e = .returned (.int .i64 (E.nodes.length : Int)) ∧ w = w' := by
  obtain ⟨S, L', T, h1, h2, h3, h4⟩ := h
  have := nodes_any (h3.at_.inWorld h1)
  rwa [h4.count] at this
theorem live_dir {w0 w : World} {L : List Rw} {t : Nat} {E : Et} (h : Live w0 L t E w) (hm : Mx w0) (s : ByteArray) (hs : s.size ≤ maxLen) :
    Calls Tryz.prog 235 #[.pointer (some ⟨t, 0, none⟩), .string s] w fun e w' => e = .returned (.bool (match standE E s.data.toList with | some n => n.dir | none => false)) ∧ Live w0 L t E w' := by
  have hmw := h.mx hm
  have hh := h
  obtain ⟨S, L', T, h1, h2, h3, h4⟩ := h
  have hst := h4.stand h3.good.keys s.data.toList
  have hi := isdir_any (h3.at_.inWorld h1) h3.good s hs hmw
  have e : dirT T s.data.toList = (match standE E s.data.toList with | some n => n.dir | none => false) := by
    unfold dirT
    rw [← hst]
    cases standT T s.data.toList <;> rfl
  rw [e] at hi
  exact hi.mono fun e w' hr => ⟨hr.1, hh.later hr.2⟩
/-- The files that stand nowhere. -/
def looseE (l : List (Int × ENd)) : List Int := (l.filter fun p => !p.2.dir && (p.2.places == 0)).map (·.1)
theorem looseL_er (l : List (Int × Nd)) : looseL l = looseE (erL l) := by
  unfold looseL looseE erL
  induction l with
  | nil => rfl
  | cons p r ih =>
    simp only [List.map_cons, List.filter_cons]
    have e : p.2.loose = (!p.2.er.dir && (p.2.er.places == 0)) := rfl
    rw [e]
    split
    · simp only [List.map_cons]; rw [ih]
    · exact ih
theorem live_loose {w0 w : World} {L : List Rw} {t : Nat} {E : Et} (h : Live w0 L t E w) (hn : E.nodes.length ≤ 4294967296) :
    Calls Tryz.prog 35 #[.pointer (some ⟨t, 0, none⟩)] w fun e w' => ∃ (v : Value) (zs : List Int), e = .returned v ∧ zs.Perm (looseE E.nodes) ∧ Live w0 (rowI v (zs.mergeSort fun x y => decide (x ≤ y)) :: L) t E w' := by
  have hh := h
  obtain ⟨S, L', T, h1, h2, h3, h4⟩ := h
  refine (loose_t (h3.at_.inWorld h1) (by rw [h4.count]; exact hn)).mono fun e w' hr => ?_
  obtain ⟨v, zs, e1, e2, e3⟩ := hr
  refine ⟨v, zs, e1, e2.trans ?_, hh.join e3⟩
  rw [looseL_er]
  exact (h4.nodes.filter _).map _
end Go.Proofs.YtlkgmhlaoahdlaaGreatDoor
end

/- Loose files that are all held: none of them is taken away. -/
section
namespace Go.Proofs.YtlkgmhlaoahdlaaGreatDoor
open Go.RowKit
open Go.ChangeMaps (setBlock)
set_option linter.unusedVariables false
set_option linter.unusedSimpArgs false
set_option maxRecDepth 100000

section
variable {w0 w w' : World} {S S' : Blocks} {R L L' M : List Rw} {v c n : Nat} {X X' : VX} {T T' Tc : Tr} {K : Blocks} {sv : Value} {zs : List Int}
theorem ask_any (h : VolIn w0 S R L v X T w) (bx : Nat) (hb : w.cell? ⟨bx, 0, none⟩ = some (.pointer (some ⟨v, 0, none⟩))) (i : Int) :
    Calls Tryz.prog 36 #[.int .i64 i, .pointer (some ⟨bx, 0, none⟩)] w fun e w' => e = .returned (.bool (decide (0 < heldN X.held i))) ∧ w = w' := by
  have hh := held_any h i
  clear h
  generalize heldN X.held i = m at *
  go_enter Tryz.func36, Tryz.ntmps36
  go_wp2_with fail
  refine hh.mono ?_
  rintro e w' ⟨rfl, rfl⟩
  go_wp2_with fail
  go_ret
  exact ⟨rfl, rfl⟩
/-- The first file of a row that is held. -/
theorem first_any (h : VolIn w0 S R L v X T w) (bx : Nat) (hb : w.cell? ⟨bx, 0, none⟩ = some (.pointer (some ⟨v, 0, none⟩))) (zs : List Int) (sv : Value) (hs : ∃ a c, sv = .slice a zs.length c ∧ (∀ i (hi : i < zs.length), ∃ g, a = some ⟨g, 0, none⟩ ∧ w.cell? ⟨g, i, none⟩ = some (.int .i64 zs[i]))) (hall : ∀ i ∈ zs, 0 < heldN X.held i) :
    Calls Tryz.prog 63 #[sv, .func (.func 36) #[] #[.pointer (some ⟨bx, 0, none⟩)]] w fun e w' => e = .returned (.int .i64 (if zs.length = 0 then -1 else 0)) ∧ w = w' := by
  obtain ⟨a, c, rfl, hc⟩ := hs
  cases zs with
  | nil =>
    clear h hc
    go_enter Tryz.func63, Tryz.ntmps63
    go_wp2_with fail
    go_loop [8] (fun i => i = .int .i64 0) (fun _ => 0)
    case atStart => rfl
    case round =>
      obtain rfl := hrel
      go_wp2_with fail
      go_ret
      exact ⟨rfl, rfl⟩
  | cons z r =>
    obtain ⟨g, rfl, hc0⟩ := hc 0 (by simp)
    have hz : 0 < heldN X.held z := hall z (List.mem_cons_self ..)
    have hask := ask_any h bx hb z
    rw [show decide (0 < heldN X.held z) = true from decide_eq_true hz] at hask
    have hc1 : w.cell? ⟨g, 0, none⟩ = some (.int .i64 z) := hc0
    obtain ⟨m, hm⟩ : ∃ m, (z :: r).length = m := ⟨_, rfl⟩
    have hmp : (0 : Int) < (m : Int) := by rw [← hm]; simp
    have hne : ¬ (z :: r).length = 0 := by simp
    rw [if_neg hne, hm]
    clear h hc hc0 hall hz hm hne hb
    go_enter Tryz.func63, Tryz.ntmps63
    go_wp2_with fail
    go_loop [8] (fun i => i = .int .i64 0) (fun _ => 0)
    case atStart => rfl
    case round =>
      obtain rfl := hrel
      go_wp2_with fail
      refine hask.mono ?_
      rintro e w' ⟨rfl, rfl⟩
      go_wp2_with fail
      go_ret
      exact ⟨rfl, rfl⟩
set_option maxHeartbeats 4000000 in
/-- Out of a row of files that are all held none stays. -/
theorem del_all (hO : Own ⟨w0, S⟩ w (rowI sv zs :: (R ++ L))) (h : VolIn w0 S R L v X T w) (bx : Nat) {bt : TypeId} (hbx : (bx, .cells #[.pointer (some ⟨v, 0, none⟩)] bt) ∈ S) (hall : ∀ i ∈ zs, 0 < heldN X.held i) :
    Calls Tryz.prog 34 #[sv, .func (.func 36) #[] #[.pointer (some ⟨bx, 0, none⟩)]] w fun e w' => ∃ a c, e = .returned (.slice a 0 c) ∧ VolIn w0 S R L v X T w' := by
  have hb : w.cell? ⟨bx, 0, none⟩ = some (.pointer (some ⟨v, 0, none⟩)) := by rw [h.own.cellB hbx]; rfl
  by_cases hz : zs.length = 0
  · have hzs : zs = [] := List.eq_nil_of_length_eq_zero hz
    subst hzs
    obtain ⟨a, c, rfl, _, _⟩ := Own.sized (h := (show Own ⟨w0, S⟩ w (⟨3, 1, sv, 0, []⟩ :: (R ++ L)) from hO))
    have hf := first_any h bx hb [] (.slice a 0 c) ⟨a, c, rfl, fun i hi => absurd hi (by simp)⟩ (fun i hi => by cases hi)
    rw [show (if ([] : List Int).length = 0 then (-1 : Int) else 0) = -1 from rfl] at hf
    have H := Lib.hid h
    clear h hO hall hb hbx hz
    go_enter Tryz.func34, Tryz.ntmps34
    go_wp2_with fail
    refine hf.mono ?_
    rintro e w' ⟨rfl, rfl⟩
    go_wp2_with fail
    go_ret
    exact ⟨_, _, rfl, H.out⟩
  · have hO' : Own ⟨w0, S⟩ w (⟨3, 1, sv, zs.length, zs.map (Value.int .i64)⟩ :: (R ++ L)) := hO
    obtain ⟨g, cp, rfl, _, _, hcp, hcm⟩ := Own.form (h := hO') (by omega)
    have hcell : ∀ i (hi : i < zs.length), w.cell? ⟨g, i, none⟩ = some (.int .i64 zs[i]) := fun i hi => by
      rw [Own.cell (h := hO') i (by omega), List.getElem?_map, List.getElem?_eq_getElem hi]; rfl
    have hf := first_any h bx hb zs (.slice (some ⟨g, 0, none⟩) zs.length cp) ⟨_, cp, rfl, fun i hi => ⟨g, rfl, hcell i hi⟩⟩ hall
    rw [if_neg hz] at hf
    have hask : ∀ i (hi : i < zs.length), Calls Tryz.prog 36 #[.int .i64 zs[i], .pointer (some ⟨bx, 0, none⟩)] w fun e w' => e = .returned (.bool true) ∧ w = w' := fun i hi => by
      have := ask_any h bx hb zs[i]
      rwa [show decide (0 < heldN X.held zs[i]) = true from decide_eq_true (hall _ (List.getElem_mem _))] at this
    have hcl : ∀ ty, (Builtin.clear_ #[22] ty #[.slice (some ⟨g, 0, none⟩) zs.length cp]).run Tryz.prog w = .ok (.tuple #[]) (w.setCells g 0 (List.replicate zs.length (.int .i64 0))) := fun ty =>
      Lib.run_clear_slice w 22 3 ty (.int .i64 0) Tryz.underlying22 (fun w => zeroIntW w) rfl rfl g 0 zs.length cp (by omega) (fun i hi => by rw [Nat.zero_add, hcell i hi]; rfl) (fun i hi => Own.free (h := hO') _)
    have HP := Lib.hid (show VolIn w0 S R L v X T (w.setCells g 0 (List.replicate zs.length (.int .i64 0))) from { h with own := (Own.setCells (h := hO') (List.replicate zs.length (.int .i64 0)) 0).tail })
    have Hask := Lib.hid hask
    have Hcell := Lib.hid hcell
    obtain ⟨n, hn⟩ : ∃ n, zs.length = n := ⟨_, rfl⟩
    have hn0 : 0 < n := by omega
    have hcp0 : ¬ cp = 0 := by omega
    have hcp1 : n ≤ cp := by omega
    have hcm2 : cp ≤ 9223372036854775807 := by unfold maxLen at hcm; omega
    rw [hn] at hf hcl HP ⊢
    have Hn := Lib.hid hn
    clear h hO hO' hall hb hbx hz hcell hask hn hcm hcp
    go_enter Tryz.func34, Tryz.ntmps34
    go_wp2_with fail
    refine hf.mono ?_
    rintro e w' ⟨rfl, rfl⟩
    go_wp2_with fail
    go_loop [5, 6] (fun i j => i = .int .i64 0 ∧ ∃ k : Nat, 1 ≤ k ∧ k ≤ n ∧ j = .int .i64 k) (fun _ j => n - (intOf j).toNat)
    case atStart => exact ⟨rfl, 1, by omega, by omega, rfl⟩
    case round =>
      obtain ⟨rfl, k, hk1, hk, rfl⟩ := hrel
      by_cases hkn : k < n
      · have hc := Hcell.out k (by rw [Hn.out]; exact hkn)
        have ha := Hask.out k (by rw [Hn.out]; exact hkn)
        generalize zs[k]'(by rw [Hn.out]; exact hkn) = z at *
        have hb63 : (k : Int) < (n : Int) := by exact_mod_cast hkn
        go_wp2_with fail
        refine ha.mono ?_
        rintro e w' ⟨rfl, rfl⟩
        go_wp2_with fail
        go_round
        case rel => exact ⟨rfl, k + 1, by omega, by omega, by go_num⟩
        case measure => simp [intOf]; omega
      · have hke : k = n := by omega
        subst hke
        have hb63 : ¬ ((k : Int) < (k : Int)) := Int.lt_irrefl _
        go_wp2_with fail
        go_ret
        exact ⟨⟨_, _, rfl⟩, HP.out⟩
end
end Go.Proofs.YtlkgmhlaoahdlaaGreatDoor
end

/- Do of a volume, where all goes well, and each loose file is held. -/
section
namespace Go.Proofs.YtlkgmhlaoahdlaaGreatDoor
open Go.RowKit
open Go.ChangeMaps (setBlock)
set_option linter.unusedVariables false
set_option linter.unusedSimpArgs false
set_option maxRecDepth 100000

section
variable {w0 w w' : World} {S S' S1 : Blocks} {R L L' L1 M : List Rw} {v c n : Nat} {X X' X1 X2 : VX} {T T' Tc T1 : Tr} {K : Blocks} {sv : Value} {zs : List Int}
theorem VolTo.comp {m : Nat} (hL : ∀ x ∈ L, x ∈ L1) (hS : ∀ b x, (b, x) ∈ S → b ∉ v :: X.hm :: X.t :: T.foot → (b, x) ∈ S1) (hF : ∀ b ∈ X.t :: T1.foot, b ∈ X.t :: T.foot ∨ n ≤ b) (ht : X1.t = X.t) (hh : X1.hm = X.hm) (hlt : ∀ b x, (b, x) ∈ S → b < n) (hnm : n ≤ m) (k : VolTo w0 S1 L1 v X1 T1 m X2 w') : VolTo w0 S L v X T n X2 w' := by
  obtain ⟨S2, R2, L2, T2, g1, g2, g3, g4, g5, g6⟩ := k
  refine ⟨S2, R2, L2, T2, g1, fun x hx => g2 x (hL x hx), fun b x hx hb => g3 b x (hS b x hx hb) ?_, fun b hb => ?_, g5.trans ht, g6.trans hh⟩
  · intro hm
    rw [ht, hh] at hm
    rcases List.mem_cons.1 hm with rfl | hm
    · exact hb (List.mem_cons_self ..)
    · rcases List.mem_cons.1 hm with rfl | hm
      · exact hb (List.mem_cons_of_mem _ (List.mem_cons_self ..))
      · rcases hF b hm with h7 | h7
        · exact hb (List.mem_cons_of_mem _ (List.mem_cons_of_mem _ h7))
        · have := hlt b x hx; omega
  · rw [ht] at g4
    rcases g4 b hb with h7 | h7
    · exact hF b h7
    · exact .inr (by omega)
/-- The tree that was apart takes the tree's place. -/
theorem VolIn.takes (h : VolIn w0 S R L v X T w) (hc : Tree S (Pc L) c Tc) {E' : Et} {B' : Nat} (hr : Rep Tc E') (hi : Inv E' B') (hd : ∀ b ∈ v :: X.hm :: X.t :: T.foot, b ∉ c :: Tc.foot) :
    VolIn w0 (upd S X.t (.cells (treeCells Tc) 81)) R L v { X with E := E', B := B' } Tc (((w.setCell ⟨X.t, 0, none⟩ (.int .i64 Tc.quota)).setCell ⟨X.t, 1, none⟩ (.int .i64 Tc.next)).setCell ⟨X.t, 2, none⟩ (.map (some Tc.bm))) := by
  have htv : v ≠ X.t := fun e => h.off.1 (e ▸ List.mem_cons_self ..)
  have hth : X.hm ≠ X.t := fun e => h.off.2.1 (e ▸ List.mem_cons_self ..)
  have mt : X.t ∈ v :: X.hm :: X.t :: T.foot := List.mem_cons_of_mem _ (List.mem_cons_of_mem _ (List.mem_cons_self ..))
  have htc : X.t ∉ Tc.foot := fun hm => hd _ mt (List.mem_cons_of_mem _ hm)
  have hin : ∀ b, b ∈ v :: X.hm :: X.t :: T.foot → b ≠ X.t → b ∉ X.t :: Tc.foot := fun b hb hne hm => by
    rcases List.mem_cons.1 hm with e | hm
    · exact hne e
    · exact hd b hb (List.mem_cons_of_mem _ hm)
  obtain ⟨o, h1, h2⟩ := h.map
  exact ⟨store3 h.own h.tree.at_.cells, h.log, hc.moved h.tree.at_.cells htc, hr, hi, upd_other h.cells htv _, ⟨o, upd_other h1 hth _, h2⟩, ⟨hin _ (List.mem_cons_self ..) htv, hin _ (List.mem_cons_of_mem _ (List.mem_cons_self ..)) hth, h.off.2.2⟩, h.live, h.left⟩
theorem VolIn.loose (h : VolIn w0 S R L v X T w) (hB : X.B ≤ 1000000) : Calls Tryz.prog 35 #[.pointer (some ⟨X.t, 0, none⟩)] w fun e w' => ∃ (sv : Value) (zs : List Int), e = .returned sv ∧ zs.Perm (looseE X.E.nodes) ∧ Own ⟨w0, S⟩ w' (rowI sv zs :: (R ++ L)) ∧ VolIn w0 S R L v X T w' := by
  have hlen := h.inv.len
  refine (loose_t h.treeW (by rw [h.rep.count]; omega)).mono fun e w' hd => ?_
  obtain ⟨sv, zs, e1, e2, e3⟩ := hd
  refine ⟨sv, zs.mergeSort fun x y => decide (x ≤ y), e1, (List.mergeSort_perm zs _).trans (e2.trans ?_), h.own.join e3, h.later e3.below⟩
  rw [looseL_er]
  unfold looseE
  exact (h.rep.nodes.filter _).map _
theorem VolIn.reapNone (h : VolIn w0 S R L v X T w) (a : Option Addr) (cp : Nat) : Calls Tryz.prog 33 #[.pointer (some ⟨X.t, 0, none⟩), .slice a 0 cp] w fun e w' => e = .returned (.tuple #[]) ∧ VolTo w0 S L v X T w.heap.size X w' := by
  have := h.turn (f := 33) (args := #[.pointer (some ⟨X.t, 0, none⟩), .slice a 0 cp]) (r := .tuple #[]) (E' := X.E) (B' := X.B) h.inv fun S1 _ k1 k2 => reap_any k1 k2 h.rep h.inv a [] cp (by simp) (fun w' S' _ _ i hi => absurd hi (by simp))
  exact this
theorem to_cells {b m : Nat} {bt : TypeId} {bv : Value} (k : VolTo w0 S L v X T m X w') (hb : (b, .cells #[bv] bt) ∈ S) (hn : b ∉ v :: X.hm :: X.t :: T.foot) : w'.cell? ⟨b, 0, none⟩ = some bv ∧ w'.cell? ⟨v, 0, none⟩ = some (.pointer (some ⟨X.t, 0, none⟩)) := by
  obtain ⟨S', R', L', T', h1, _, h3, _⟩ := k
  exact ⟨by rw [h1.own.cellB (h3 _ _ hb hn)]; rfl, h1.atV.1.1⟩
/-- What Do makes of a volume. -/
abbrev doneX (X : VX) (ops : List OpD) (xs : List OpE) (D' : Dk) : VX :=
  { X with E := (DoE X.E xs).2, B := X.B + xs.length, D := D', used := X.used + roomM (recO (pks ops xs)).length, recs := X.recs ++ [recO (pks ops xs)], st := X.st + 100 }
set_option maxHeartbeats 16000000 in
theorem vdo_yes (h : VolIn w0 S R L v X T w) (hm : Mx w0) {a : Option Addr} {ops : List OpD} {xs : List OpE} (ho : Ops w0 S L a ops xs) (cap : Nat) (hk : ∀ o ∈ ops, 0 ≤ o.kind ∧ o.kind < 4294967296) (hs : ∀ o ∈ ops, o.p.size ≤ 100000 ∧ o.q.size ≤ 100000) (hz : ∀ x ∈ xs, x.zs.length ≤ 100000) (hq : ∀ o ∈ ops, o.kind = 4 ∨ o.kind = 5 ∨ o.q = ⟨#[]⟩)
    (hn0 : 0 < ops.length) (hB : X.B + ops.length ≤ 100000) (hE : (DoE X.E xs).1 = 0) (hl : (recO (pks ops xs)).length ≤ 4096) (hf : X.used + roomM (recO (pks ops xs)).length ≤ X.h) (hst : X.st ≤ 1000000000) (hheld : ∀ i ∈ looseE (DoE X.E xs).2.nodes, 0 < heldN X.held i) :
    Calls Tryz.prog 19 #[.pointer (some ⟨v, 0, none⟩), .slice a ops.length cap] w fun e w' => e = .returned (.int .i64 0) ∧ ∃ D', VolTo w0 S L v X T w.heap.size (doneX X ops xs D') w' := by
  have hxl := ho.len
  have hlt : ∀ b x, (b, x) ∈ S → b < w.heap.size := fun b x hb => (h.own.atLt hb).2
  have hvlt : ∀ b ∈ v :: X.hm :: X.t :: T.foot, b < w.heap.size := fun b hb => (h.lt hb).2
  have hI1 : Inv (DoE X.E xs).2 (X.B + xs.length) := DoE_inv h.inv xs
  obtain ⟨w1, hw1⟩ : ∃ w1, w1 = w.alloc (.cells #[.pointer (some ⟨v, 0, none⟩)] 24) := ⟨_, rfl⟩
  have h1 : VolIn w0 ((w.heap.size, .cells #[.pointer (some ⟨v, 0, none⟩)] 24) :: S) R L v X T w1 := by
    rw [hw1]; exact h.base (h.own.newB _) (fun b x hx _ => List.mem_cons_of_mem _ hx)
  obtain ⟨bx, hbx⟩ : ∃ bx, w.heap.size = bx := ⟨_, rfl⟩
  rw [hbx] at h1 hlt hvlt ⊢
  have hsz1 : w1.heap.size = bx + 1 := by rw [hw1, ← hbx]; simp
  have hb1 : w1.cell? ⟨bx, 0, none⟩ = some (.pointer (some ⟨v, 0, none⟩)) := by rw [h1.own.cellB (List.mem_cons_self ..)]; rfl
  have hdead := dead_any h1
  rw [hw1] at hdead hb1
  have Hsz1 := Lib.hid hsz1
  have Hlt := Lib.hid hlt
  have Hvlt := Lib.hid hvlt
  have Ho := Lib.hid ho
  have HI := Lib.hid hI1
  have Hheld := Lib.hid hheld
  have Hl := Lib.hid hl
  have Hf := Lib.hid hf
  have Hk := Lib.hid hk
  have Hs := Lib.hid hs
  have Hz := Lib.hid hz
  have Hq := Lib.hid hq
  have Hx := Lib.hid hxl
  have HE := Lib.hid hE
  have Hw1 := Lib.hid hw1
  clear h h1 hlt hvlt ho hI1 hheld hl hf hk hs hz hq hxl hE hsz1 hw1
  subst hbx
  go_enter Tryz.func19, Tryz.ntmps19
  go_wp2_with fail
  refine hdead.mono ?_
  rintro e w2 ⟨rfl, h2, hsz2⟩
  rw [← Hw1.out, Hsz1.out] at hsz2
  have hb2 : w2.cell? ⟨w.heap.size, 0, none⟩ = some (.pointer (some ⟨v, 0, none⟩)) := by rw [h2.own.cellB (List.mem_cons_self ..)]; rfl
  obtain ⟨⟨c0, _, _, _, _⟩, _⟩ := h2.atV
  have hwk := work_any h2
  have H2 := Lib.hid h2
  clear hdead hb1 h2
  go_wp2_with fail
  refine hwk.mono ?_
  rintro e w3 ⟨c, S3, Tc, rfl, h3, hc3, hr3, hs3, hf3⟩
  have hcw : c < w3.heap.size := (h3.own.atLt hc3.at_.cells).2
  have hcl := hf3 c (List.mem_cons_self ..)
  have hS3 : ∀ b x, (b, x) ∈ S → (b, x) ∈ S3 := fun b x hx => hs3 b x (List.mem_cons_of_mem _ hx)
  have hbS3 := hs3 _ _ (List.mem_cons_self ..)
  have hdo := work_do (n := w2.heap.size) h3 hm hc3 hr3 hf3 (fun b hb => by have := Hvlt.out b hb; omega) (by omega) (Ho.out.mono hS3 (fun x hx => hx)) cap (by omega)
  rw [HE.out] at hdo
  have HS3 := Lib.hid hS3
  have HbS3 := Lib.hid hbS3
  have Hf3 := Lib.hid hf3
  clear hwk c0 hb2 h3 hc3 hr3 hs3 hf3 hS3 hbS3 H2
  go_wp2_with fail
  refine hdo.mono ?_
  rintro e w4 ⟨rfl, S4, L4, Tc4, h4, hL4, hc4, hr4, hs4, hf4⟩
  have hbS4 := hs4 _ _ HbS3.out (fun hm => by have := Hf3.out _ hm; omega)
  have hS4 : ∀ b x, (b, x) ∈ S → (b, x) ∈ S4 := fun b x hx => hs4 b x (HS3.out b x hx) (fun hm => by have := Hf3.out _ hm; have := Hlt.out b x hx; omega)
  have hb4 : w4.cell? ⟨w.heap.size, 0, none⟩ = some (.pointer (some ⟨v, 0, none⟩)) := by rw [h4.own.cellB hbS4]; rfl
  have hkp := keep_yes h4 (Ops.pack (Ho.out.mono hS4 hL4) Hk.out Hs.out Hz.out) (.pointer (some ⟨c, 0, none⟩)) cap (by rw [pks_len Hx.out]; exact hn0) (by rw [pks_len Hx.out]; omega) (fun o ho => by
    obtain ⟨i, hi, rfl⟩ := List.getElem_of_mem ho
    rw [pks_len Hx.out] at hi
    rw [pks_get Hx.out i hi]
    exact Hq.out _ (List.getElem_mem _)) Hl.out Hf.out hst
  rw [pks_len Hx.out] at hkp
  have HS4 := Lib.hid hS4
  have HbS4 := Lib.hid hbS4
  have Hf4 := Lib.hid hf4
  have HL4 := Lib.hid hL4
  have Hc4 := Lib.hid hc4
  have Hr4 := Lib.hid hr4
  clear hdo h4 hc4 hr4 hs4 hf4 hS4 hbS4 hL4
  go_wp2_with fail
  refine hkp.mono ?_
  rintro e w5 ⟨rfl, R5, L5, D5, h5, hL5⟩
  have hc5 : Tree S4 (Pc L5) c Tc4 := Hc4.out.mono (fun b x _ hx => hx) (fun _ _ hh => hh.mono hL5)
  have h6 := h5.drew.takes hc5 Hr4.out HI.out (fun b hb hm => by
    have := Hf4.out b hm
    have := Hvlt.out b hb
    omega)
  have hb5 : w5.drew.cell? ⟨w.heap.size, 0, none⟩ = some (.pointer (some ⟨v, 0, none⟩)) := by rw [h5.drew.own.cellB HbS4.out]; rfl
  obtain ⟨⟨c0, _, _, _, _⟩, _⟩ := h5.drew.atV
  obtain ⟨a0, a1, a2⟩ := (hc5.at_.inWorld h5.drew.ownL).at0
  have ht5 := h5.drew.own.at h5.tree.at_.cells
  have f0 := free_at ht5 0
  have f1 := free_at ht5 1
  have f2 := free_at ht5 2
  have b0 : w5.drew.cell? ⟨X.t, 0, none⟩ = some (.int .i64 T.quota) := cell_at ht5 0
  have b1 : w5.drew.cell? ⟨X.t, 1, none⟩ = some (.int .i64 T.next) := cell_at ht5 1
  have b2 : w5.drew.cell? ⟨X.t, 2, none⟩ = some (.map (some T.bm)) := cell_at ht5 2
  have H6 := Lib.hid h6
  have HL5 := Lib.hid (fun x (hx : x ∈ L) => hL5 x (HL4.out x hx))
  clear hkp h5 hc5 h6 hL5 ht5 hb4
  have hbu : (w.heap.size, Obj.cells #[.pointer (some ⟨v, 0, none⟩)] 24) ∈ upd S4 X.t (.cells (treeCells Tc4) 81) := upd_other HbS4.out (fun e => by
    have := Hvlt.out X.t (List.mem_cons_of_mem _ (List.mem_cons_of_mem _ (List.mem_cons_self ..)))
    omega) _
  have HbS6 := Lib.hid hbu
  have HS6 := Lib.hid (fun b x (hx : (b, x) ∈ S) (hb : b ∉ v :: X.hm :: X.t :: T.foot) => upd_other (HS4.out b x hx) (fun e => hb (e ▸ List.mem_cons_of_mem _ (List.mem_cons_of_mem _ (List.mem_cons_self ..)))) (.cells (treeCells Tc4) 81))
  have HF6 := Lib.hid (fun b (hb : b ∈ X.t :: Tc4.foot) => (show b ∈ X.t :: T.foot ∨ w.heap.size ≤ b from by
    rcases List.mem_cons.1 hb with rfl | hb
    · exact .inl (List.mem_cons_self ..)
    · have := Hf4.out b (List.mem_cons_of_mem _ hb)
      exact .inr (by omega)))
  have HbF0 : w.heap.size ∉ v :: X.hm :: X.t :: Tc4.foot := fun hm => by
    rcases List.mem_cons.1 hm with e | hm
    · have := Hvlt.out v (List.mem_cons_self ..); omega
    · rcases List.mem_cons.1 hm with e | hm
      · have := Hvlt.out X.hm (List.mem_cons_of_mem _ (List.mem_cons_self ..)); omega
      · rcases List.mem_cons.1 hm with e | hm
        · have := Hvlt.out X.t (List.mem_cons_of_mem _ (List.mem_cons_of_mem _ (List.mem_cons_self ..))); omega
        · have := Hf4.out _ (List.mem_cons_of_mem _ hm); omega
  obtain ⟨w6, hw6⟩ : ∃ w6, w6 = (((w5.drew.setCell ⟨X.t, 0, none⟩ (.int .i64 Tc4.quota)).setCell ⟨X.t, 1, none⟩ (.int .i64 Tc4.next)).setCell ⟨X.t, 2, none⟩ (.map (some Tc4.bm))) := ⟨_, rfl⟩
  rw [← hw6] at H6
  clear hbu HbS4 HS4 Hf4 Hr4 Hc4 HL4 HS3 HbS3 Hf3 Ho Hl Hf Hk Hs Hz Hq HE
  go_wp2_with fail
  go_still_tail 8, (by kernel_rfl)
  repeat still_step
  change wpList _ _ _ _ _ w5.drew
  generalize w5.drew = wd at *
  go_wp2_with fail
  rw [← hw6]
  have hb6 : w6.cell? ⟨w.heap.size, 0, none⟩ = some (.pointer (some ⟨v, 0, none⟩)) := by rw [H6.out.own.cellB HbS6.out]; rfl
  obtain ⟨⟨d0, _, _, _, _⟩, _⟩ := H6.out.atV
  have HbF := Lib.hid HbF0
  have HLo := Lib.hid (fun W (hb : Below w6.heap.size w6 W) => (H6.out.later hb).loose (by show X.B + xs.length ≤ 1000000; rw [Hx.out]; omega))
  clear hw6 a0 a1 a2 b0 b1 b2 f0 f1 f2 hb5 c0
  go_region_held3 (fun w' : World => w'.cell? ⟨w.heap.size, 0, none⟩ = some (.pointer (some ⟨v, 0, none⟩)) ∧ w'.cell? ⟨v, 0, none⟩ = some (.pointer (some ⟨X.t, 0, none⟩))) (first | exact ⟨hb6, d0⟩ | exact s7 | exact s8 | exact s9) (first
    | (go_at_call 35; refine (HLo.out _ (by first | exact Below.refl _ _ | exact (Below.refl _ _).drew)).mono ?_; rintro e w7 ⟨sv, zs, rfl, hp7, hO7, h7⟩; have s7 : w7.cell? ⟨w.heap.size, 0, none⟩ = some (.pointer (some ⟨v, 0, none⟩)) ∧ w7.cell? ⟨v, 0, none⟩ = some (.pointer (some ⟨X.t, 0, none⟩)) := ⟨by rw [h7.own.cellB HbS6.out]; rfl, h7.atV.1.1⟩; obtain ⟨q1, q2⟩ := id s7; have H7 := Lib.hid (And.intro hp7 (And.intro hO7 h7)); clear hp7 hO7 h7)
    | (go_at_call 34; refine (del_all H7.out.2.1 H7.out.2.2 w.heap.size HbS6.out (fun i hi => Hheld.out i (H7.out.1.subset hi))).mono ?_; rintro e w8 ⟨a8, c8, rfl, h8⟩; have s8 : w8.cell? ⟨w.heap.size, 0, none⟩ = some (.pointer (some ⟨v, 0, none⟩)) ∧ w8.cell? ⟨v, 0, none⟩ = some (.pointer (some ⟨X.t, 0, none⟩)) := ⟨by rw [h8.own.cellB HbS6.out]; rfl, h8.atV.1.1⟩; obtain ⟨r1, r2⟩ := id s8; have H8 := Lib.hid h8; clear h8)
    | (go_at_call 33; refine (H8.out.reapNone a8 c8).mono ?_; rintro e w9 ⟨rfl, h9⟩; have H9 := Lib.hid h9; have s9 := to_cells h9 HbS6.out HbF.out; clear h9))
  all_goals
    have HP := Lib.hid (show VolTo w0 S L v X T w.heap.size (doneX X ops xs D5) w9 from VolTo.comp HL5.out HS6.out HF6.out rfl rfl Hlt.out (Nat.le_of_lt (H8.out.own.atLt HbS6.out).2) H9.out)
    clear H9 H8 H7 H6 HLo HbF HL5 HbS6 HS6 HF6 Hheld HI
    go_wp2_with fail
    go_ret
    exact ⟨rfl, _, HP.out⟩
end
end Go.Proofs.YtlkgmhlaoahdlaaGreatDoor
end

/- A volume on a new disk. -/
section
namespace Go.Proofs.YtlkgmhlaoahdlaaGreatDoor
open Go.RowKit
open Go.ChangeMaps (setBlock)
set_option linter.unusedVariables false
set_option linter.unusedSimpArgs false
set_option maxRecDepth 100000

theorem inv_newE (q : Int) : Inv (E0 q) 0 := by
  have hl : ∀ i n, look (E0 q).nodes i = some n → i = 1 ∧ n = ⟨true, [], [], 0⟩ := fun i n h => by
    have := look_mem h
    have h2 : (i, n) = (1, ⟨true, [], [], 0⟩) := by simpa [E0] using this
    injection h2 with h3 h4
    exact ⟨h3, h4⟩
  refine ⟨by show ([1] : List Int).Nodup; simp, ⟨⟨true, [], [], 0⟩, rfl, rfl⟩, fun i n h q' hq => ?_, fun i n h => ?_, fun i n h hd => ?_, fun i n h hd hi => ?_, rfl, fun i n h => ?_, fun i n h => ?_, Nat.le_refl _, by show (2 : Int) ≤ 0 + 2; decide, Nat.zero_le _, Nat.le_refl _⟩
  · obtain ⟨rfl, rfl⟩ := hl i n h; cases hq
  · obtain ⟨rfl, rfl⟩ := hl i n h; exact List.nodup_nil
  · obtain ⟨rfl, rfl⟩ := hl i n h; cases hd
  · obtain ⟨rfl, rfl⟩ := hl i n h; exact absurd rfl hi
  · obtain ⟨rfl, rfl⟩ := hl i n h; exact ⟨Int.le_refl _, by show (1 : Int) < 2; decide⟩
  · obtain ⟨rfl, rfl⟩ := hl i n h; exact Nat.zero_le _
section
variable {w0 w w' : World} {S S' S1 : Blocks} {R L L' L1 M : List Rw} {v c n d : Nat} {X X' X1 X2 : VX} {T T' Tc T1 : Tr} {K : Blocks} {sv : Value} {zs : List Int}
def MadeAt (w0 : World) (S : Blocks) (L : List Rw) (D : Value → List Int → Prop) (w : World) (q : Int) (e : Ending) (w' : World) : Prop :=
  ∃ S', e = .returned (.tuple #[.pointer (some ⟨w.heap.size + 3, 0, none⟩), .bool true]) ∧ Own ⟨w0, S'⟩ w' L ∧ Tree S' D (w.heap.size + 3) (newT w.heap.size q) ∧ (∀ b o, (b, o) ∈ S → (b, o) ∈ S')
/-- A tree of no records. -/
theorem made_nil {D : Value → List Int → Prop} (hO : Own ⟨w0, S⟩ w L) (hD : D (.slice none 0 0) []) (q : Int) (hq : (Lit.int .i64 q).wf = true) (a : Option Addr) (cp : Nat) (ha : (a = none ∧ cp = 0) ∨ ∃ g, a = some ⟨g, 0, none⟩) (hcp : cp ≤ maxLen) :
    Calls Tryz.prog 27 #[.int .i64 q, .slice a 0 cp] w (MadeAt w0 S L D w q) := by
  have hnew := tnew_any hO hD q hq
  unfold maxLen at hcp
  rcases ha with ⟨rfl, rfl⟩ | ⟨g, rfl⟩
  · clear hO hq
    go_enter Tryz.func27, Tryz.ntmps27
    go_wp2_with fail
    go_loop [6, 17] (fun r i => r = .slice none 0 0 ∧ i = .int .i64 0) (fun _ _ => 0)
    case atStart => exact ⟨rfl, rfl⟩
    case round =>
      obtain ⟨rfl, rfl⟩ := hrel
      go_wp2_with fail
      refine hnew.mono ?_
      rintro e w1 ⟨S', rfl, h1, h2, h3⟩
      have HP := Lib.hid (show MadeAt w0 S L D w q (.returned (.tuple #[.pointer (some ⟨w.heap.size + 3, 0, none⟩), .bool true])) w1 from ⟨S', rfl, h1, h2, h3⟩)
      clear hnew h1 h2 h3
      go_wp2_with fail
      go_loop [12, 50] (fun r i => r = .bool true ∧ i = .int .i64 0) (fun _ _ => 0)
      case atStart => exact ⟨rfl, rfl⟩
      case round =>
        obtain ⟨rfl, rfl⟩ := hrel
        go_wp2_with fail
        go_ret2
        exact HP.out
  · by_cases hc0 : cp = 0
    · subst hc0
      clear hO hq
      go_enter Tryz.func27, Tryz.ntmps27
      go_wp2_with fail
      go_loop [6, 17] (fun r i => r = .slice none 0 0 ∧ i = .int .i64 0) (fun _ _ => 0)
      case atStart => exact ⟨rfl, rfl⟩
      case round =>
        obtain ⟨rfl, rfl⟩ := hrel
        go_wp2_with fail
        refine hnew.mono ?_
        rintro e w1 ⟨S', rfl, h1, h2, h3⟩
        have HP := Lib.hid (show MadeAt w0 S L D w q (.returned (.tuple #[.pointer (some ⟨w.heap.size + 3, 0, none⟩), .bool true])) w1 from ⟨S', rfl, h1, h2, h3⟩)
        clear hnew h1 h2 h3
        go_wp2_with fail
        go_loop [12, 50] (fun r i => r = .bool true ∧ i = .int .i64 0) (fun _ _ => 0)
        case atStart => exact ⟨rfl, rfl⟩
        case round =>
          obtain ⟨rfl, rfl⟩ := hrel
          go_wp2_with fail
          go_ret2
          exact HP.out
    · clear hO hq
      go_enter Tryz.func27, Tryz.ntmps27
      go_wp2_with fail
      go_loop [6, 17] (fun r i => r = .slice none 0 0 ∧ i = .int .i64 0) (fun _ _ => 0)
      case atStart => exact ⟨rfl, rfl⟩
      case round =>
        obtain ⟨rfl, rfl⟩ := hrel
        go_wp2_with fail
        refine hnew.mono ?_
        rintro e w1 ⟨S', rfl, h1, h2, h3⟩
        have HP := Lib.hid (show MadeAt w0 S L D w q (.returned (.tuple #[.pointer (some ⟨w.heap.size + 3, 0, none⟩), .bool true])) w1 from ⟨S', rfl, h1, h2, h3⟩)
        clear hnew h1 h2 h3
        go_wp2_with fail
        go_loop [12, 50] (fun r i => r = .bool true ∧ i = .int .i64 0) (fun _ _ => 0)
        case atStart => exact ⟨rfl, rfl⟩
        case round =>
          obtain ⟨rfl, rfl⟩ := hrel
          go_wp2_with fail
          go_ret2
          exact HP.out
/-- A new volume's blocks, as plain data. -/
def newX (t d l hm : Nat) (q : Int) (D : Dk) (n : Nat) : VX := ⟨t, d, l, hm, E0 (max q 0), 0, [], D, n, (n - 2) / 2, 0, 0, 3, []⟩
theorem vopen_new (hA : DkAt ⟨w0, S⟩ w d (newM n) L) (h6 : 6 ≤ n) (hm : n ≤ 4096) (q : Int) (hq : (Lit.int .i64 q).wf = true) :
    Calls Tryz.prog 17 #[.pointer (some ⟨d, 0, none⟩), .int .i64 q] w fun e w' => ∃ v t l hm D S' R T, e = .returned (.tuple #[.pointer (some ⟨v, 0, none⟩), .int .i64 0]) ∧ VolIn w0 S' R L v (newX t d l hm q D n) T w' ∧ (∀ b x, (b, x) ∈ S → (b, x) ∈ S') ∧ (∀ b ∈ v :: hm :: t :: T.foot, ∀ x, (b, x) ∉ S) := by
  have hop := open_new hA h6 hm
  have hmk : ∀ w, (Instr.makeMap 42 none).run Tryz.prog w = .ok (.map (some w.heap.size)) (w.alloc (.map #[] 0)) := fun w => rfl
  clear hA
  go_enter Tryz.func17, Tryz.ntmps17
  go_wp2_with fail
  refine hop.mono ?_
  rintro e w1 ⟨l, D, rfl, hl, hv, hz⟩
  have hls := logs_any hl (fun b hb => by cases hb) (by simp)
  have Hl := Lib.hid hl
  have Hv := Lib.hid hv
  have Hz := Lib.hid hz
  clear hop hl hv hz
  go_wp2_with fail
  refine hls.mono ?_
  rintro e w2 ⟨lv, vs, M, rfl, hO2, hL2⟩
  have hvs : vs = [] := List.eq_nil_of_length_eq_zero hL2.1
  subst hvs
  have hrow := hO2.head.2
  have hl2 := Hl.out.later hO2.below
  have hsm : ∃ a cp, lv = .slice a 0 cp ∧ ((a = none ∧ cp = 0) ∨ ∃ g, a = some ⟨g, 0, none⟩) ∧ cp ≤ maxLen := by
    rcases hrow with ⟨h1, _⟩ | ⟨g, cp, cur, h1, _, _, _, h2, _⟩
    · exact ⟨none, 0, h1, .inl ⟨rfl, rfl⟩, Nat.zero_le _⟩
    · exact ⟨_, cp, h1, .inr ⟨g, rfl⟩, h2⟩
  obtain ⟨a, cp, rfl, ha, hcp⟩ := hsm
  obtain ⟨R, hO3, hlog⟩ := hl2.openB
  have hmd := made_nil (D := Pc L) hO3 (Pc.nil L) q hq a cp ha hcp
  have Hlog := Lib.hid hlog
  have HO3 := Lib.hid hO3
  clear hls hO2 hL2 hrow hl2 ha hcp hO3 hlog
  go_wp2_with fail
  refine hmd.mono ?_
  rintro e w3 ⟨S3, rfl, hO4, hT4, hS4⟩
  have hO5 := (hO4.newB (.map #[] 0)).newB (.cells #[.pointer (some ⟨w2.heap.size + 3, 0, none⟩), .pointer (some ⟨d, 0, none⟩), .pointer (some ⟨l, 0, none⟩), .map (some w3.heap.size), .bool false] 44)
  rw [show (w3.alloc (.map #[] 0)).heap.size = w3.heap.size + 1 by simp] at hO5
  have hlow : ∀ b ∈ (w2.heap.size + 3) :: (newT w2.heap.size q).foot, b < w3.heap.size := fun b hb => by
    obtain ⟨x, hx⟩ := kept_in hT4.at_ b hb
    exact (hO4.atLt hx).2
  have hge : ∀ b ∈ (w2.heap.size + 3) :: (newT w2.heap.size q).foot, w2.heap.size ≤ b := fun b hb => by
    have hb2 : b ∈ ([w2.heap.size + 3, w2.heap.size, w2.heap.size + 1 + 1, w2.heap.size + 1] : List Nat) := hb
    simp at hb2
    omega
  have h23 := hlow _ (List.mem_cons_self ..)
  have HP := Lib.hid (show VolIn w0 ((w3.heap.size + 1, .cells #[.pointer (some ⟨w2.heap.size + 3, 0, none⟩), .pointer (some ⟨d, 0, none⟩), .pointer (some ⟨l, 0, none⟩), .map (some w3.heap.size), .bool false] 44) :: (w3.heap.size, .map #[] 0) :: S3) R L (w3.heap.size + 1) (newX (w2.heap.size + 3) d l w3.heap.size q D n) (newT w2.heap.size q) ((w3.alloc (.map #[] 0)).alloc (.cells #[.pointer (some ⟨w2.heap.size + 3, 0, none⟩), .pointer (some ⟨d, 0, none⟩), .pointer (some ⟨l, 0, none⟩), .map (some w3.heap.size), .bool false] 44)) from
    ⟨hO5, Hlog.out, hT4.mono (fun b x _ hx => List.mem_cons_of_mem _ (List.mem_cons_of_mem _ hx)) (fun _ _ hh => hh), new_rep _ q, inv_newE _, List.mem_cons_self .., ⟨_, List.mem_cons_of_mem _ (List.mem_cons_self ..), MapO.empty KI⟩,
      ⟨fun hm => by have := hlow (w3.heap.size + 1) hm; omega, fun hm => by have := hlow w3.heap.size hm; omega, by show w3.heap.size + 1 ≠ w3.heap.size; omega⟩, Hv.out, Hz.out⟩)
  have HS := Lib.hid (fun b x (hx : (b, x) ∈ S) => List.mem_cons_of_mem (w3.heap.size + 1, Obj.cells #[.pointer (some ⟨w2.heap.size + 3, 0, none⟩), .pointer (some ⟨d, 0, none⟩), .pointer (some ⟨l, 0, none⟩), .map (some w3.heap.size), .bool false] 44) (List.mem_cons_of_mem (w3.heap.size, Obj.map #[] 0) (hS4 b x hx)))
  have HF := Lib.hid (fun b (hb : b ∈ (w3.heap.size + 1) :: w3.heap.size :: (w2.heap.size + 3) :: (newT w2.heap.size q).foot) x (hx : (b, x) ∈ S) => (show False from by
    have h1 := (HO3.out.atLt hx).2
    rcases List.mem_cons.1 hb with e | hb
    · omega
    · rcases List.mem_cons.1 hb with e | hb
      · omega
      · have := hge b hb; omega))
  clear hO4 hT4 hS4 hO5 hlow hge hmd Hl Hv Hz HO3 Hlog
  go_wp2_with fail
  go_ret2
  exact ⟨_, _, _, _, _, _, _, _, rfl, HP.out, HS.out, HF.out⟩
end
end Go.Proofs.YtlkgmhlaoahdlaaGreatDoor
end

/- A file is let go for the last time. -/
section
namespace Go.Proofs.YtlkgmhlaoahdlaaGreatDoor
open Go.RowKit
open Go.ChangeMaps (setBlock)
set_option linter.unusedVariables false
set_option linter.unusedSimpArgs false
set_option maxRecDepth 100000

section
variable {w0 w w' : World} {S S' S1 : Blocks} {R L L' L1 M : List Rw} {v c n d : Nat} {X X' X1 X2 : VX} {T T' Tc T1 : Tr} {K : Blocks} {sv : Value} {zs : List Int}
theorem VolIn.less (h : VolIn w0 S R L v X T w) (i : Int) : ∃ o', (Builtin.delete_ #[42, 3] 0 #[.map (some X.hm), .int .i64 i]).run Tryz.prog w = .ok (.tuple #[]) (setBlock w X.hm o') ∧ VolIn w0 (upd S X.hm o') R L v { X with held := del X.held i } T (setBlock w X.hm o') := by
  obtain ⟨o, h1, h2⟩ := h.map
  obtain ⟨o', h3, h4⟩ := h2.delete (w := w) kindsI Tryz.underlying42 (h.own.at h1) i 0
  have e : del (heldV X.held) i = heldV (del X.held i) := (del_map (fun x : Int => Value.int .i64 x) X.held i).symm
  rw [e] at h4
  exact ⟨o', h3, h.held' h1 h4⟩
set_option maxHeartbeats 4000000 in
theorem let_last (h : VolIn w0 S R L v X T w) (i : Int) (hz : heldN X.held i = 1) :
    Calls Tryz.prog 234 #[.pointer (some ⟨v, 0, none⟩), .int .i64 i] w fun e w' => e = .returned (.int .i64 0) ∧ VolTo w0 S L v X T w.heap.size { X with held := del X.held i, E := reapE X.E [i] } w' := by
  obtain ⟨⟨c0, c1, c2, c3, c4⟩, f4⟩ := h.atV
  have hl := h.heldAt i
  rw [hz] at hl
  obtain ⟨o', hdel, h2⟩ := h.less i
  have hlt : ∀ b x, (b, x) ∈ S → b < w.heap.size := fun b x hb => (h.own.atLt hb).2
  have hmm : X.hm < w.heap.size := (h.lt (List.mem_cons_of_mem _ (List.mem_cons_self ..))).2
  have hsz : (setBlock w X.hm o').heap.size = w.heap.size := (setBlock_heap w X.hm o' hmm).2.2
  have k1 : VolTo w0 S L v X T w.heap.size { X with held := del X.held i } (setBlock w X.hm o') := upd_to h2 rfl rfl
  obtain ⟨w2, hw2⟩ : ∃ w2, w2 = setBlock w X.hm o' := ⟨_, rfl⟩
  rw [← hw2] at hdel h2 hsz k1
  have c0' : w2.cell? ⟨v, 0, none⟩ = some (.pointer (some ⟨X.t, 0, none⟩)) := h2.atV.1.1
  have h3 : VolIn w0 ((w2.heap.size, .cells #[.int .i64 i] 3) :: upd S X.hm o') R L v { X with held := del X.held i } T (w2.alloc (.cells #[.int .i64 i] 3)) := h2.base (h2.own.newB _) (fun b x hx _ => List.mem_cons_of_mem _ hx)
  have hrp := h3.turn (f := 33) (args := #[.pointer (some ⟨X.t, 0, none⟩), .slice (some ⟨w2.heap.size, 0, none⟩) 1 1]) (r := .tuple #[]) (E' := reapE X.E [i]) (B' := X.B) (reapE_inv [i] h3.inv) fun S1 hS1 k1 k2 => reap_any k1 k2 h3.rep h3.inv (some ⟨w2.heap.size, 0, none⟩) [i] 1 (by simp) (fun w' S' k3 k4 j hj => by
    have hj0 : j = 0 := by simpa using hj
    subst hj0
    refine ⟨w2.heap.size, 0, rfl, ?_⟩
    have hin := k4 _ _ (hS1 _ _ (List.mem_cons_self ..)) (fun hm => by
      have h5 := (h2.lt (List.mem_cons_of_mem _ (List.mem_cons_of_mem _ hm))).2
      omega)
    rw [k3.cellB hin]; rfl)
  have HK := Lib.hid (fun w9 (k : VolTo w0 ((w2.heap.size, .cells #[.int .i64 i] 3) :: upd S X.hm o') L v { X with held := del X.held i } T (w2.alloc (.cells #[.int .i64 i] 3)).heap.size { X with held := del X.held i, E := reapE X.E [i] } w9) =>
    (show VolTo w0 S L v X T w.heap.size { X with held := del X.held i, E := reapE X.E [i] } w9 from
      VolTo.comp (X1 := { X with held := del X.held i }) (T1 := T) (fun x hx => hx) (fun b x hx hb => List.mem_cons_of_mem _ (upd_other hx (fun e => hb (e ▸ List.mem_cons_of_mem _ (List.mem_cons_self ..))) _)) (fun b hb => .inl hb) rfl rfl hlt (by simp; omega) k))
  have b0 : ((1 : Int) == 0) = false := rfl
  have c9 := c0'
  rw [hw2] at c9
  clear h h2 h3 k1 hlt hz c1 c2 c4 f4 hmm
  go_enter Tryz.func234, Tryz.ntmps234
  go_wp2_with fail
  rw [← hw2]
  refine hrp.mono ?_
  rintro e w9 ⟨rfl, h9⟩
  have HP := Lib.hid (HK.out w9 h9)
  clear hrp h9 HK
  go_wp2_with fail
  go_ret
  exact ⟨rfl, HP.out⟩
end
end Go.Proofs.YtlkgmhlaoahdlaaGreatDoor
end

/- What holding a file and letting it go make of a volume, in one form each. -/
section
namespace Go.Proofs.YtlkgmhlaoahdlaaGreatDoor
open Go.RowKit
open Go.ChangeMaps (setBlock)
set_option linter.unusedVariables false
set_option linter.unusedSimpArgs false
set_option maxRecDepth 100000

/-- A file is let go once. -/
def letX (X : VX) (i : Int) : VX :=
  if heldN X.held i = 0 then X else if heldN X.held i = 1 then { X with held := del X.held i, E := reapE X.E [i] } else { X with held := put X.held i (heldN X.held i - 1) }
def letAll (X : VX) (ids : List Int) : VX := ids.foldl letX X
theorem letAll_snoc (X : VX) (ids : List Int) (i : Int) : letAll X (ids ++ [i]) = letX (letAll X ids) i := by
  unfold letAll
  rw [List.foldl_append]; rfl
/-- No file is held less than no times, or more often than a number. -/
def HeldOk (M : Nat) (X : VX) : Prop := (X.held.map (·.1)).Nodup ∧ ∀ i, 0 ≤ heldN X.held i ∧ heldN X.held i ≤ M
theorem heldN_put (m : List (Int × Int)) (i n j : Int) : heldN (put m i n) j = if j = i then n else heldN m j := by
  unfold heldN
  rw [look_put]
  split <;> rfl
theorem heldN_del {m : List (Int × Int)} (hd : (m.map (·.1)).Nodup) (i j : Int) : heldN (del m i) j = if j = i then 0 else heldN m j := by
  unfold heldN
  by_cases h : j = i
  · rw [if_pos h, h, look_del_same hd]; rfl
  · rw [if_neg h, look_del_ne h]
theorem letX_ok {M : Nat} {X : VX} (h : HeldOk M X) (i : Int) : HeldOk M (letX X i) := by
  unfold letX
  split
  · exact h
  · split
    · refine ⟨h.1.sublist ((del_sub _ _).map _), fun j => ?_⟩
      show 0 ≤ heldN (del X.held i) j ∧ heldN (del X.held i) j ≤ M
      rw [heldN_del h.1]
      split
      · omega
      · exact h.2 j
    · refine ⟨put_nodup h.1 _ _, fun j => ?_⟩
      show 0 ≤ heldN (put X.held i (heldN X.held i - 1)) j ∧ heldN (put X.held i (heldN X.held i - 1)) j ≤ M
      rw [heldN_put]
      split
      · have := h.2 i; omega
      · exact h.2 j
theorem letX_t (X : VX) (i : Int) : (letX X i).t = X.t ∧ (letX X i).hm = X.hm := by
  unfold letX
  split
  · exact ⟨rfl, rfl⟩
  · split <;> exact ⟨rfl, rfl⟩
/-- The file at a path is held: the error, the number. -/
def codeX (X : VX) (l : List UInt8) : Int := match findX X.E l with
  | none => 8
  | some i => if dirX X.E l = true then 10 else 0
def numX (X : VX) (l : List UInt8) : Int := if codeX X l = 0 then (findX X.E l).getD 0 else 0
def holdX (X : VX) (l : List UInt8) : VX := if codeX X l = 0 then { X with held := put X.held (numX X l) (heldN X.held (numX X l) + 1) } else X
theorem holdX_ok {M : Nat} {X : VX} (h : HeldOk M X) (l : List UInt8) : HeldOk (M + 1) (holdX X l) := by
  unfold holdX
  split
  · refine ⟨put_nodup h.1 _ _, fun j => ?_⟩
    show 0 ≤ heldN (put X.held _ _) j ∧ heldN (put X.held _ _) j ≤ ((M + 1 : Nat) : Int)
    rw [heldN_put]
    split
    · have := h.2 (numX X l); omega
    · have := h.2 j; omega
  · exact ⟨h.1, fun j => by have := h.2 j; omega⟩
section
variable {w0 w w' : World} {S S' S1 : Blocks} {R L L' L1 M : List Rw} {v c n d : Nat} {X X' X1 X2 : VX} {T T' Tc T1 : Tr} {K : Blocks} {sv : Value} {zs : List Int}
theorem let_any {N : Nat} (h : VolIn w0 S R L v X T w) (i : Int) (ho : HeldOk N X) (hN : N ≤ 1000000) :
    Calls Tryz.prog 234 #[.pointer (some ⟨v, 0, none⟩), .int .i64 i] w fun e w' => (∃ k, e = .returned (.int .i64 k)) ∧ VolTo w0 S L v X T w.heap.size (letX X i) w' := by
  have hi := ho.2 i
  unfold letX
  by_cases h0 : heldN X.held i = 0
  · rw [if_pos h0]
    exact (let_none h i h0).mono fun e w' hd => ⟨⟨8, hd.1⟩, hd.2 ▸ h.to _⟩
  · rw [if_neg h0]
    by_cases h1 : heldN X.held i = 1
    · rw [if_pos h1]
      exact (let_last h i h1).mono fun e w' hd => ⟨⟨0, hd.1⟩, hd.2⟩
    · rw [if_neg h1]
      exact (let_more h i rfl (by omega) (by omega)).mono fun e w' hd => ⟨⟨0, hd.1⟩, hd.2⟩
theorem hold_any {N : Nat} (h : VolIn w0 S R L v X T w) (hm : Mx w0) (s : ByteArray) (hs : s.size ≤ maxLen) (ho : HeldOk N X) (hN : N ≤ 1000000) :
    Calls Tryz.prog 233 #[.pointer (some ⟨v, 0, none⟩), .string s] w fun e w' => e = .returned (.tuple #[.int .i64 (numX X s.data.toList), .int .i64 (codeX X s.data.toList)]) ∧ VolTo w0 S L v X T w.heap.size (holdX X s.data.toList) w' := by
  unfold holdX numX
  cases hf : findX X.E s.data.toList with
  | none =>
    have e1 : codeX X s.data.toList = 8 := by unfold codeX; rw [hf]
    rw [e1, if_neg (by decide), if_neg (by decide)]
    exact (hold_none h hm s hs hf).mono fun e w' hd => ⟨hd.1, hd.2.1.to _⟩
  | some i =>
    cases hd : dirX X.E s.data.toList with
    | true =>
      have e1 : codeX X s.data.toList = 10 := by unfold codeX; rw [hf]; simp only; rw [if_pos hd]
      rw [e1, if_neg (by decide), if_neg (by decide)]
      exact (hold_dir h hm s hs hf hd).mono fun e w' hd => ⟨hd.1, hd.2.1.to _⟩
    | false =>
      have e1 : codeX X s.data.toList = 0 := by unfold codeX; rw [hf]; simp only; rw [if_neg (by rw [hd]; decide)]
      rw [e1, if_pos rfl, if_pos rfl]
      have hi := ho.2 i
      exact (hold_yes h hm s hs hf hd rfl ⟨by omega, by omega⟩).mono fun e w' hd => ⟨hd.1, hd.2⟩
end
end Go.Proofs.YtlkgmhlaoahdlaaGreatDoor
end

/- Contracts of Go's library at this dump: slices.Sorted(maps.Keys(m)), keys of kind int. -/
section
namespace Go.Proofs
open Go.Shelf
def Tryz.sortedI23_ren : Go.Shelf.Ren := ⟨fun | 6 => 23 | 8 => 40 | 9 => 41 | 11 => 67 | 13 => 69 | 12 => 68 | 23 => 118 | 24 => 119 | 14 => 109 | 15 => 110 | 16 => 111 | 17 => 112 | 18 => 113 | 19 => 114 | 20 => 115 | 21 => 116 | 22 => 117 | 25 => 157 | 26 => 158 | 27 => 159 | 28 => 160 | 29 => 161 | 30 => 162 | 31 => 185 | n => n, fun | 26 => 3 | 28 => 84 | 24 => 22 | 0 => 0 | 3 => 3 | 37 => 33 | 48 => 183 | 50 => 95 | 4 => 4 | 40 => 176 | 39 => 175 | 45 => 37 | 5 => 5 | 9 => 9 | 51 => 224 | 55 => 228 | 57 => 247 | 58 => 248 | 33 => 102 | n => n, fun | n => n⟩
theorem Tryz.sortedI23 : Go.Proofs.SlLaysZI.n6 Tryz.prog Tryz.sortedI23_ren := {
  mixed := by kernel_rfl
  f6 := ⟨Tryz.f23.name, by decide, Tryz.func23.trans (congrArg some (by kernel_rfl))⟩
  f8 := ⟨Tryz.f40.name, by decide, Tryz.func40.trans (congrArg some (by kernel_rfl))⟩
  f11 := ⟨Tryz.f67.name, by decide, Tryz.func67.trans (congrArg some (by kernel_rfl))⟩
  t0 := Tryz.underlying0
  a0 := Tryz.isAgg0
  z0 := Tryz.sizeOf0
  v0 := Tryz.zeroValue0
  t24 := Tryz.underlying22
  a24 := Tryz.isAgg22
  z24 := Tryz.sizeOf22
  v24 := Tryz.zeroValue22
  t26 := Tryz.underlying3
  a26 := Tryz.isAgg3
  z26 := Tryz.sizeOf3
  v26 := Tryz.zeroValue3
  t28 := Tryz.underlying84
  a28 := Tryz.isAgg84
  z28 := Tryz.sizeOf84
  v28 := Tryz.zeroValue84
  i26 := by kernel_rfl }
def Tryz.sortI41_ren : Go.Shelf.Ren := ⟨fun | 5 => 41 | 8 => 69 | 7 => 68 | 19 => 118 | 20 => 119 | 10 => 109 | 11 => 110 | 12 => 111 | 13 => 112 | 14 => 113 | 15 => 114 | 16 => 115 | 17 => 116 | 18 => 117 | 30 => 157 | 31 => 158 | 32 => 159 | 33 => 160 | 34 => 161 | 35 => 162 | 40 => 185 | n => n, fun | 23 => 22 | 25 => 3 | 3 => 3 | 32 => 33 | 22 => 22 | 0 => 0 | 44 => 183 | 46 => 95 | 4 => 4 | 36 => 176 | 35 => 175 | 41 => 37 | 5 => 5 | 9 => 9 | 53 => 224 | 57 => 228 | 63 => 247 | 64 => 248 | n => n, fun | n => n⟩
theorem Tryz.sortI41 : Go.Proofs.SlLaysM.n5 Tryz.prog Tryz.sortI41_ren := {
  mixed := by kernel_rfl
  f5 := ⟨Tryz.f41.name, by decide, Tryz.func41.trans (congrArg some (by kernel_rfl))⟩
  f7 := ⟨Tryz.f68.name, by decide, Tryz.func68.trans (congrArg some (by kernel_rfl))⟩
  f8 := Tryz.func69.trans (congrArg some (by kernel_rfl))
  f10 := ⟨Tryz.f109.name, by decide, Tryz.func109.trans (congrArg some (by kernel_rfl))⟩
  f11 := ⟨Tryz.f110.name, by decide, Tryz.func110.trans (congrArg some (by kernel_rfl))⟩
  f12 := ⟨Tryz.f111.name, by decide, Tryz.func111.trans (congrArg some (by kernel_rfl))⟩
  f13 := ⟨Tryz.f112.name, by decide, Tryz.func112.trans (congrArg some (by kernel_rfl))⟩
  f14 := ⟨Tryz.f113.name, by decide, Tryz.func113.trans (congrArg some (by kernel_rfl))⟩
  f15 := ⟨Tryz.f114.name, by decide, Tryz.func114.trans (congrArg some (by kernel_rfl))⟩
  f16 := ⟨Tryz.f115.name, by decide, Tryz.func115.trans (congrArg some (by kernel_rfl))⟩
  f17 := ⟨Tryz.f116.name, by decide, Tryz.func116.trans (congrArg some (by kernel_rfl))⟩
  f18 := ⟨Tryz.f117.name, by decide, Tryz.func117.trans (congrArg some (by kernel_rfl))⟩
  f19 := Tryz.func118.trans (congrArg some (by kernel_rfl))
  f20 := Tryz.func119.trans (congrArg some (by kernel_rfl))
  f30 := ⟨Tryz.f157.name, by decide, Tryz.func157.trans (congrArg some (by kernel_rfl))⟩
  f31 := Tryz.func158.trans (congrArg some (by kernel_rfl))
  f32 := Tryz.func159.trans (congrArg some (by kernel_rfl))
  f33 := ⟨Tryz.f160.name, by decide, Tryz.func160.trans (congrArg some (by kernel_rfl))⟩
  f34 := ⟨Tryz.f161.name, by decide, Tryz.func161.trans (congrArg some (by kernel_rfl))⟩
  f35 := ⟨Tryz.f162.name, by decide, Tryz.func162.trans (congrArg some (by kernel_rfl))⟩
  f40 := ⟨Tryz.f185.name, by decide, Tryz.func185.trans (congrArg some (by kernel_rfl))⟩
  t0 := Tryz.underlying0
  a0 := Tryz.isAgg0
  z0 := Tryz.sizeOf0
  v0 := Tryz.zeroValue0
  t3 := Tryz.underlying3
  a3 := Tryz.isAgg3
  z3 := Tryz.sizeOf3
  v3 := Tryz.zeroValue3
  t4 := Tryz.underlying4
  a4 := Tryz.isAgg4
  z4 := Tryz.sizeOf4
  v4 := Tryz.zeroValue4
  t5 := Tryz.underlying5
  a5 := Tryz.isAgg5
  z5 := Tryz.sizeOf5
  v5 := Tryz.zeroValue5
  t9 := Tryz.underlying9
  a9 := Tryz.isAgg9
  z9 := Tryz.sizeOf9
  v9 := Tryz.zeroValue9
  t22 := Tryz.underlying22
  a22 := Tryz.isAgg22
  z22 := Tryz.sizeOf22
  v22 := Tryz.zeroValue22
  t23 := Tryz.underlying22
  a23 := Tryz.isAgg22
  z23 := Tryz.sizeOf22
  v23 := Tryz.zeroValue22
  t25 := Tryz.underlying3
  a25 := Tryz.isAgg3
  z25 := Tryz.sizeOf3
  v25 := Tryz.zeroValue3
  t32 := Tryz.underlying33
  a32 := Tryz.isAgg33
  z32 := Tryz.sizeOf33
  v32 := Tryz.zeroValue33
  t35 := Tryz.underlying175
  a35 := Tryz.isAgg175
  z35 := Tryz.sizeOf175
  v35 := Tryz.zeroValue175
  t36 := Tryz.underlying176
  a36 := Tryz.isAgg176
  z36 := Tryz.sizeOf176
  v36 := Tryz.zeroValue176
  t41 := Tryz.underlying37
  a41 := Tryz.isAgg37
  z41 := Tryz.sizeOf37
  v41 := Tryz.zeroValue37
  t44 := Tryz.underlying183
  a44 := Tryz.isAgg183
  z44 := Tryz.sizeOf183
  v44 := Tryz.zeroValue183
  t46 := Tryz.underlying95
  a46 := Tryz.isAgg95
  z46 := Tryz.sizeOf95
  v46 := Tryz.zeroValue95
  t53 := Tryz.underlying224
  a53 := Tryz.isAgg224
  z53 := Tryz.sizeOf224
  v53 := Tryz.zeroValue224
  t57 := Tryz.underlying228
  a57 := Tryz.isAgg228
  z57 := Tryz.sizeOf228
  v57 := Tryz.zeroValue228
  t63 := Tryz.underlying247
  a63 := Tryz.isAgg247
  z63 := Tryz.sizeOf247
  v63 := Tryz.zeroValue247
  t64 := Tryz.underlying248
  a64 := Tryz.isAgg248
  z64 := Tryz.sizeOf248
  v64 := Tryz.zeroValue248 }
def Tryz.keysI24_ren : Go.Shelf.Ren := ⟨fun | 7 => 24 | 10 => 42 | n => n, fun | 23 => 66 | 26 => 3 | 3 => 71 | 28 => 84 | 0 => 0 | 27 => 83 | 33 => 102 | 4 => 4 | n => n, fun | n => n⟩
theorem Tryz.keysI24 : Go.Proofs.SlLaysZI.n7 Tryz.prog Tryz.keysI24_ren := {
  mixed := by kernel_rfl
  f7 := ⟨Tryz.f24.name, by decide, Tryz.func24.trans (congrArg some (by kernel_rfl))⟩
  f10 := ⟨Tryz.f42.name, by decide, Tryz.func42.trans (congrArg some (by kernel_rfl))⟩
  t0 := Tryz.underlying0
  a0 := Tryz.isAgg0
  z0 := Tryz.sizeOf0
  v0 := Tryz.zeroValue0
  t4 := Tryz.underlying4
  a4 := Tryz.isAgg4
  z4 := Tryz.sizeOf4
  v4 := Tryz.zeroValue4
  t23 := Tryz.underlying66
  a23 := Tryz.isAgg66
  z23 := Tryz.sizeOf66
  v23 := Tryz.zeroValue66
  t26 := Tryz.underlying3
  a26 := Tryz.isAgg3
  z26 := Tryz.sizeOf3
  v26 := Tryz.zeroValue3
  t27 := Tryz.underlying83
  a27 := Tryz.isAgg83
  z27 := Tryz.sizeOf83
  v27 := Tryz.zeroValue83
  t28 := Tryz.underlying84
  a28 := Tryz.isAgg84
  z28 := Tryz.sizeOf84
  v28 := Tryz.zeroValue84
  t33 := Tryz.underlying102
  a33 := Tryz.isAgg102
  z33 := Tryz.sizeOf102
  v33 := Tryz.zeroValue102 }
def Tryz.keysI149_ren : Go.Shelf.Ren := ⟨fun | 7 => 149 | 10 => 176 | n => n, fun | 23 => 79 | 26 => 3 | 3 => 78 | 28 => 84 | 0 => 0 | 27 => 83 | 33 => 102 | 4 => 4 | n => n, fun | n => n⟩
theorem Tryz.keysI149 : Go.Proofs.SlLaysZI.n7 Tryz.prog Tryz.keysI149_ren := {
  mixed := by kernel_rfl
  f7 := ⟨Tryz.f149.name, by decide, Tryz.func149.trans (congrArg some (by kernel_rfl))⟩
  f10 := ⟨Tryz.f176.name, by decide, Tryz.func176.trans (congrArg some (by kernel_rfl))⟩
  t0 := Tryz.underlying0
  a0 := Tryz.isAgg0
  z0 := Tryz.sizeOf0
  v0 := Tryz.zeroValue0
  t4 := Tryz.underlying4
  a4 := Tryz.isAgg4
  z4 := Tryz.sizeOf4
  v4 := Tryz.zeroValue4
  t23 := Tryz.underlying79
  a23 := Tryz.isAgg79
  z23 := Tryz.sizeOf79
  v23 := Tryz.zeroValue79
  t26 := Tryz.underlying3
  a26 := Tryz.isAgg3
  z26 := Tryz.sizeOf3
  v26 := Tryz.zeroValue3
  t27 := Tryz.underlying83
  a27 := Tryz.isAgg83
  z27 := Tryz.sizeOf83
  v27 := Tryz.zeroValue83
  t28 := Tryz.underlying84
  a28 := Tryz.isAgg84
  z28 := Tryz.sizeOf84
  v28 := Tryz.zeroValue84
  t33 := Tryz.underlying102
  a33 := Tryz.isAgg102
  z33 := Tryz.sizeOf102
  v33 := Tryz.zeroValue102 }
open Go.RowKit Go.Maps Go.Sort Go.Shelf
theorem Tryz.sortsI23 (m : Nat) : AnyZI.SortsIn Tryz.prog Tryz.sortedI23_ren Fence.wide m :=
  ⟨fun blk off cap ss W hH hblk hsz => callsIn_wide.2 (AnyM.slices_Sort_int Tryz.sortI41 blk off cap ss W hH hblk hsz),
   fun p cap W => callsIn_wide.2 (AnyM.slices_Sort_int_none Tryz.sortI41 p cap W)⟩
theorem Tryz.maps_Keys_24 (mb : Option Nat) (W : World) : CallsIn Fence.wide 5 Tryz.prog 24 #[.map mb] W fun e w' => e = .returned (.func (.func 42) #[] #[.pointer (some ⟨W.heap.size, 0, none⟩)]) ∧ w' = W.alloc (.cells #[.map mb] 66) :=
  AnyZI.keys_in Tryz.keysI24 Fence.wide 5 trivial rfl mb W
set_option maxHeartbeats 1000000 in
theorem Tryz.slices_Sorted_keysI_24 {H : Type} (b nn : Nat) (D0 : DataW H) (R : Value → Option (DataW H × List MemPlace)) (w : World) (hown : w.ownsMap Tryz.prog 3 R b nn D0) (hmax : Maps.size D0 ≤ maxLen) (hbytes : Maps.size D0 * 8 ≤ 140737488355328) :
    CallsIn Fence.wide 5 Tryz.prog 23 #[.func (.func 42) #[] #[.pointer (some ⟨w.heap.size, 0, none⟩)]] (w.alloc (.cells #[.map (some b)] 66)) fun e w' => ∃ (v : Value) (ss : List Int), e = .returned v ∧ ss.Perm (intKeys D0) ∧
      w'.ownsRow (w.alloc (.cells #[.map (some b)] 66)).heap.size 3 1 v ss.length ((ss.mergeSort (fun x y => decide (x ≤ y))).map encZ) ∧ (v = .slice none 0 0 ↔ ss = []) ∧ Below (w.alloc (.cells #[.map (some b)] 66)).heap.size (w.alloc (.cells #[.map (some b)] 66)) w' := by
  have hbl := hown.lt
  have hseq : SeqGives Fence.wide 2 Tryz.prog 42 #[.pointer (some ⟨w.heap.size, 0, none⟩)] encZ (fun ss => ss.Perm (intKeys D0)) (Maps.size D0) (w.alloc (.cells #[.map (some b)] 66)) :=
    AnyZI.keys_gives (ρ := Tryz.keysI24_ren) { Tryz.keysI24 with } Fence.wide _ trivial rfl (by omega) w.heap.size b nn D0 _ (by simp) (by simp) (by
      obtain ⟨es, clock, hb, Ft, hs, hD⟩ := hown
      exact ⟨es, clock, (Below.heap_alloc _ _ b hbl).trans hb, Ft, hs, hD⟩)
  exact AnyZI.sorted_in Tryz.sortedI23 Fence.wide 5 trivial trivial trivial trivial rfl (by omega) (Tryz.sortsI23 _) (enters_of Tryz.func41 (by kernel_rfl) rfl) 42 #[.pointer (some ⟨w.heap.size, 0, none⟩)] trivial (enters_of Tryz.func42 (by kernel_rfl) rfl) _ _ hmax hbytes _ hseq
theorem Tryz.maps_Keys_149 (mb : Option Nat) (W : World) : CallsIn Fence.wide 5 Tryz.prog 149 #[.map mb] W fun e w' => e = .returned (.func (.func 176) #[] #[.pointer (some ⟨W.heap.size, 0, none⟩)]) ∧ w' = W.alloc (.cells #[.map mb] 79) :=
  AnyZI.keys_in Tryz.keysI149 Fence.wide 5 trivial rfl mb W
set_option maxHeartbeats 1000000 in
theorem Tryz.slices_Sorted_keysI_149 {H : Type} (b nn : Nat) (D0 : DataW H) (R : Value → Option (DataW H × List MemPlace)) (w : World) (hown : w.ownsMap Tryz.prog 3 R b nn D0) (hmax : Maps.size D0 ≤ maxLen) (hbytes : Maps.size D0 * 8 ≤ 140737488355328) :
    CallsIn Fence.wide 5 Tryz.prog 23 #[.func (.func 176) #[] #[.pointer (some ⟨w.heap.size, 0, none⟩)]] (w.alloc (.cells #[.map (some b)] 79)) fun e w' => ∃ (v : Value) (ss : List Int), e = .returned v ∧ ss.Perm (intKeys D0) ∧
      w'.ownsRow (w.alloc (.cells #[.map (some b)] 79)).heap.size 3 1 v ss.length ((ss.mergeSort (fun x y => decide (x ≤ y))).map encZ) ∧ (v = .slice none 0 0 ↔ ss = []) ∧ Below (w.alloc (.cells #[.map (some b)] 79)).heap.size (w.alloc (.cells #[.map (some b)] 79)) w' := by
  have hbl := hown.lt
  have hseq : SeqGives Fence.wide 2 Tryz.prog 176 #[.pointer (some ⟨w.heap.size, 0, none⟩)] encZ (fun ss => ss.Perm (intKeys D0)) (Maps.size D0) (w.alloc (.cells #[.map (some b)] 79)) :=
    AnyZI.keys_gives (ρ := Tryz.keysI149_ren) { Tryz.keysI149 with } Fence.wide _ trivial rfl (by omega) w.heap.size b nn D0 _ (by simp) (by simp) (by
      obtain ⟨es, clock, hb, Ft, hs, hD⟩ := hown
      exact ⟨es, clock, (Below.heap_alloc _ _ b hbl).trans hb, Ft, hs, hD⟩)
  exact AnyZI.sorted_in Tryz.sortedI23 Fence.wide 5 trivial trivial trivial trivial rfl (by omega) (Tryz.sortsI23 _) (enters_of Tryz.func41 (by kernel_rfl) rfl) 176 #[.pointer (some ⟨w.heap.size, 0, none⟩)] trivial (enters_of Tryz.func176 (by kernel_rfl) rfl) _ _ hmax hbytes _ hseq
end Go.Proofs
end
