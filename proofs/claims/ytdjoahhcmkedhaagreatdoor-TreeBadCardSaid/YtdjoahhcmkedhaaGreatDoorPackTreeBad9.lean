/- Texts one behind the other, each in a section of its own: what calls make of memory, step by step. -/
import Derived.Test.YtdjoahhcmkedhaaGreatDoorPackTreeBad8
import Derived.Shelf.SlIter.Nil
import Derived.Shelf.SortM.Plain
import Derived.Shelf.SortM.SortNone
import Derived.Ground.GgzProg
import Derived.Ground.SlgmProg
import Derived.Test.YtdjoahhcmkedhaaGreatDoorProg
import Derived.Lib.SmallJoins
import Derived.Deep.Slices
import Derived.WideShapes
import Derived.ProofKit

/- Contracts of Go's library at this dump: slices.Sorted(maps.Keys(m)). -/
section
namespace Go.Proofs
open Go.Shelf
def Tryz.keys62_ren : Go.Shelf.Ren := ⟨fun | 7 => 62 | 10 => 85 | n => n, fun | 23 => 84 | 26 => 9 | 3 => 3 | 28 => 111 | 0 => 0 | 27 => 110 | 33 => 65 | 4 => 4 | n => n, fun | n => n⟩
theorem Tryz.keys62 : Go.Proofs.SlLaysZ.n7 Tryz.prog Tryz.keys62_ren := {
  mixed := by kernel_rfl
  f7 := ⟨Tryz.f62.name, by decide, Tryz.func62.trans (congrArg some (by kernel_rfl))⟩
  f10 := ⟨Tryz.f85.name, by decide, Tryz.func85.trans (congrArg some (by kernel_rfl))⟩
  t0 := Tryz.underlying0
  a0 := Tryz.isAgg0
  z0 := Tryz.sizeOf0
  v0 := Tryz.zeroValue0
  t4 := Tryz.underlying4
  a4 := Tryz.isAgg4
  z4 := Tryz.sizeOf4
  v4 := Tryz.zeroValue4
  t23 := Tryz.underlying84
  a23 := Tryz.isAgg84
  z23 := Tryz.sizeOf84
  v23 := Tryz.zeroValue84
  t26 := Tryz.underlying9
  a26 := Tryz.isAgg9
  z26 := Tryz.sizeOf9
  v26 := Tryz.zeroValue9
  t27 := Tryz.underlying110
  a27 := Tryz.isAgg110
  z27 := Tryz.sizeOf110
  v27 := Tryz.zeroValue110
  t28 := Tryz.underlying111
  a28 := Tryz.isAgg111
  z28 := Tryz.sizeOf111
  v28 := Tryz.zeroValue111
  t33 := Tryz.underlying65
  a33 := Tryz.isAgg65
  z33 := Tryz.sizeOf65
  v33 := Tryz.zeroValue65 }
def Tryz.sorted61_ren : Go.Shelf.Ren := ⟨fun | 6 => 61 | 8 => 83 | 9 => 84 | 11 => 109 | 13 => 82 | 12 => 110 | 23 => 107 | 24 => 108 | 14 => 122 | 15 => 123 | 16 => 124 | 17 => 125 | 18 => 126 | 19 => 127 | 20 => 128 | 21 => 129 | 22 => 130 | 25 => 137 | 26 => 117 | 27 => 118 | 28 => 138 | 29 => 139 | 30 => 140 | 31 => 149 | n => n, fun | 26 => 9 | 28 => 111 | 24 => 68 | 0 => 0 | 3 => 3 | 37 => 130 | 48 => 129 | 50 => 157 | 4 => 4 | 40 => 149 | 39 => 148 | 45 => 44 | 5 => 5 | 9 => 9 | 51 => 164 | 55 => 168 | 57 => 180 | 58 => 181 | 33 => 65 | n => n, fun | n => n⟩
theorem Tryz.sorted61 : Go.Proofs.SlLaysZ.n6 Tryz.prog Tryz.sorted61_ren := {
  mixed := by kernel_rfl
  f6 := ⟨Tryz.f61.name, by decide, Tryz.func61.trans (congrArg some (by kernel_rfl))⟩
  f8 := ⟨Tryz.f83.name, by decide, Tryz.func83.trans (congrArg some (by kernel_rfl))⟩
  f11 := ⟨Tryz.f109.name, by decide, Tryz.func109.trans (congrArg some (by kernel_rfl))⟩
  t0 := Tryz.underlying0
  a0 := Tryz.isAgg0
  z0 := Tryz.sizeOf0
  v0 := Tryz.zeroValue0
  t24 := Tryz.underlying68
  a24 := Tryz.isAgg68
  z24 := Tryz.sizeOf68
  v24 := Tryz.zeroValue68
  t26 := Tryz.underlying9
  a26 := Tryz.isAgg9
  z26 := Tryz.sizeOf9
  v26 := Tryz.zeroValue9
  t28 := Tryz.underlying111
  a28 := Tryz.isAgg111
  z28 := Tryz.sizeOf111
  v28 := Tryz.zeroValue111
  i26 := by kernel_rfl }
def Tryz.sort84_ren : Go.Shelf.Ren := ⟨fun | 6 => 84 | 8 => 82 | 9 => 110 | 19 => 107 | 20 => 108 | 21 => 122 | 22 => 123 | 23 => 124 | 24 => 125 | 25 => 126 | 26 => 127 | 27 => 128 | 28 => 129 | 29 => 130 | 36 => 137 | 31 => 117 | 32 => 118 | 37 => 138 | 38 => 139 | 39 => 140 | 41 => 149 | n => n, fun | 27 => 68 | 29 => 9 | 3 => 3 | 32 => 130 | 26 => 68 | 0 => 0 | 44 => 129 | 46 => 157 | 4 => 4 | 36 => 149 | 35 => 148 | 41 => 44 | 5 => 5 | 9 => 9 | 53 => 164 | 57 => 168 | 63 => 180 | 64 => 181 | n => n, fun | n => n⟩
theorem Tryz.sort84 : Go.Proofs.SlLaysM.n6 Tryz.prog Tryz.sort84_ren := {
  mixed := by kernel_rfl
  f6 := ⟨Tryz.f84.name, by decide, Tryz.func84.trans (congrArg some (by kernel_rfl))⟩
  f8 := Tryz.func82.trans (congrArg some (by kernel_rfl))
  f9 := ⟨Tryz.f110.name, by decide, Tryz.func110.trans (congrArg some (by kernel_rfl))⟩
  f19 := Tryz.func107.trans (congrArg some (by kernel_rfl))
  f20 := Tryz.func108.trans (congrArg some (by kernel_rfl))
  f21 := ⟨Tryz.f122.name, by decide, Tryz.func122.trans (congrArg some (by kernel_rfl))⟩
  f22 := ⟨Tryz.f123.name, by decide, Tryz.func123.trans (congrArg some (by kernel_rfl))⟩
  f23 := ⟨Tryz.f124.name, by decide, Tryz.func124.trans (congrArg some (by kernel_rfl))⟩
  f24 := ⟨Tryz.f125.name, by decide, Tryz.func125.trans (congrArg some (by kernel_rfl))⟩
  f25 := ⟨Tryz.f126.name, by decide, Tryz.func126.trans (congrArg some (by kernel_rfl))⟩
  f26 := ⟨Tryz.f127.name, by decide, Tryz.func127.trans (congrArg some (by kernel_rfl))⟩
  f27 := ⟨Tryz.f128.name, by decide, Tryz.func128.trans (congrArg some (by kernel_rfl))⟩
  f28 := ⟨Tryz.f129.name, by decide, Tryz.func129.trans (congrArg some (by kernel_rfl))⟩
  f29 := ⟨Tryz.f130.name, by decide, Tryz.func130.trans (congrArg some (by kernel_rfl))⟩
  f31 := Tryz.func117.trans (congrArg some (by kernel_rfl))
  f32 := Tryz.func118.trans (congrArg some (by kernel_rfl))
  f36 := ⟨Tryz.f137.name, by decide, Tryz.func137.trans (congrArg some (by kernel_rfl))⟩
  f37 := ⟨Tryz.f138.name, by decide, Tryz.func138.trans (congrArg some (by kernel_rfl))⟩
  f38 := ⟨Tryz.f139.name, by decide, Tryz.func139.trans (congrArg some (by kernel_rfl))⟩
  f39 := ⟨Tryz.f140.name, by decide, Tryz.func140.trans (congrArg some (by kernel_rfl))⟩
  f41 := ⟨Tryz.f149.name, by decide, Tryz.func149.trans (congrArg some (by kernel_rfl))⟩
  t0 := Tryz.underlying0
  a0 := Tryz.isAgg0
  z0 := Tryz.sizeOf0
  v0 := Tryz.zeroValue0
  t3 := Tryz.underlying3
  a3 := Tryz.isAgg3
  z3 := Tryz.sizeOf3
  v3 := Tryz.zeroValue3
  t4 := Tryz.underlying4
  a4 := Tryz.isAgg4
  z4 := Tryz.sizeOf4
  v4 := Tryz.zeroValue4
  t5 := Tryz.underlying5
  a5 := Tryz.isAgg5
  z5 := Tryz.sizeOf5
  v5 := Tryz.zeroValue5
  t9 := Tryz.underlying9
  a9 := Tryz.isAgg9
  z9 := Tryz.sizeOf9
  v9 := Tryz.zeroValue9
  t26 := Tryz.underlying68
  a26 := Tryz.isAgg68
  z26 := Tryz.sizeOf68
  v26 := Tryz.zeroValue68
  t27 := Tryz.underlying68
  a27 := Tryz.isAgg68
  z27 := Tryz.sizeOf68
  v27 := Tryz.zeroValue68
  t29 := Tryz.underlying9
  a29 := Tryz.isAgg9
  z29 := Tryz.sizeOf9
  v29 := Tryz.zeroValue9
  t32 := Tryz.underlying130
  a32 := Tryz.isAgg130
  z32 := Tryz.sizeOf130
  v32 := Tryz.zeroValue130
  t35 := Tryz.underlying148
  a35 := Tryz.isAgg148
  z35 := Tryz.sizeOf148
  v35 := Tryz.zeroValue148
  t36 := Tryz.underlying149
  a36 := Tryz.isAgg149
  z36 := Tryz.sizeOf149
  v36 := Tryz.zeroValue149
  t41 := Tryz.underlying44
  a41 := Tryz.isAgg44
  z41 := Tryz.sizeOf44
  v41 := Tryz.zeroValue44
  t44 := Tryz.underlying129
  a44 := Tryz.isAgg129
  z44 := Tryz.sizeOf129
  v44 := Tryz.zeroValue129
  t46 := Tryz.underlying157
  a46 := Tryz.isAgg157
  z46 := Tryz.sizeOf157
  v46 := Tryz.zeroValue157
  t53 := Tryz.underlying164
  a53 := Tryz.isAgg164
  z53 := Tryz.sizeOf164
  v53 := Tryz.zeroValue164
  t57 := Tryz.underlying168
  a57 := Tryz.isAgg168
  z57 := Tryz.sizeOf168
  v57 := Tryz.zeroValue168
  t63 := Tryz.underlying180
  a63 := Tryz.isAgg180
  z63 := Tryz.sizeOf180
  v63 := Tryz.zeroValue180
  t64 := Tryz.underlying181
  a64 := Tryz.isAgg181
  z64 := Tryz.sizeOf181
  v64 := Tryz.zeroValue181 }
open Go.RowKit Go.Maps Go.Sort Go.Shelf
theorem Tryz.sorts61 (m : Nat) : AnyZ.SortsIn Tryz.prog Tryz.sorted61_ren Fence.wide m :=
  ⟨fun blk off cap ss W hH hblk hsz => callsIn_wide.2 (AnyM.slices_Sort_string Tryz.sort84 blk off cap ss W hH hblk hsz),
   fun p cap W => callsIn_wide.2 (AnyM.slices_Sort_string_none Tryz.sort84 p cap W)⟩
theorem Tryz.maps_Keys_62 (mb : Option Nat) (W : World) : CallsIn Fence.wide 5 Tryz.prog 62 #[.map mb] W fun e w' => e = .returned (.func (.func 85) #[] #[.pointer (some ⟨W.heap.size, 0, none⟩)]) ∧ w' = W.alloc (.cells #[.map mb] 84) :=
  AnyZ.keys_in Tryz.keys62 Fence.wide 5 trivial rfl mb W
set_option maxHeartbeats 1000000 in
theorem Tryz.slices_Sorted_keys_61_62 {H : Type} (b nn : Nat) (D0 : DataW H) (R : Value → Option (DataW H × List MemPlace)) (w : World) (hown : w.ownsMap Tryz.prog 9 R b nn D0) (hmax : Maps.size D0 ≤ maxLen) (hbytes : Maps.size D0 * 16 ≤ 140737488355328) :
    CallsIn Fence.wide 5 Tryz.prog 61 #[.func (.func 85) #[] #[.pointer (some ⟨w.heap.size, 0, none⟩)]] (w.alloc (.cells #[.map (some b)] 84)) fun e w' => ∃ (v : Value) (ss : List (List UInt8)), e = .returned v ∧ ss.Perm (strKeys D0) ∧
      w'.ownsRow (w.alloc (.cells #[.map (some b)] 84)).heap.size 9 1 v ss.length ((ss.mergeSort (fun x y => decide (x ≤ y))).map encStr) ∧ (v = .slice none 0 0 ↔ ss = []) ∧ Below (w.alloc (.cells #[.map (some b)] 84)).heap.size (w.alloc (.cells #[.map (some b)] 84)) w' := by
  have hbl := hown.lt
  have hseq : SeqGives Fence.wide 2 Tryz.prog 85 #[.pointer (some ⟨w.heap.size, 0, none⟩)] encStr (fun ss => ss.Perm (strKeys D0)) (Maps.size D0) (w.alloc (.cells #[.map (some b)] 84)) :=
    AnyZ.keys_gives (ρ := Tryz.keys62_ren) { Tryz.keys62 with } Fence.wide _ trivial rfl (by omega) w.heap.size b nn D0 _ (by simp) (by simp) (by
      obtain ⟨es, clock, hb, Ft, hs, hD⟩ := hown
      exact ⟨es, clock, (Below.heap_alloc _ _ b hbl).trans hb, Ft, hs, hD⟩)
  exact AnyZ.sorted_in Tryz.sorted61 Fence.wide 5 trivial trivial trivial trivial rfl (by omega) (Tryz.sorts61 _) (enters_of Tryz.func84 (by kernel_rfl) rfl) 85 #[.pointer (some ⟨w.heap.size, 0, none⟩)] trivial (enters_of Tryz.func85 (by kernel_rfl) rfl) _ _ hmax hbytes _ hseq
set_option maxHeartbeats 1000000 in
theorem Tryz.slices_Sorted_keys_nil_61_62 (w : World) :
    CallsIn Fence.wide 5 Tryz.prog 61 #[.func (.func 85) #[] #[.pointer (some ⟨w.heap.size, 0, none⟩)]] (w.alloc (.cells #[.map none] 84)) fun e w' => ∃ (v : Value) (ss : List (List UInt8)), e = .returned v ∧ ss = [] ∧
      w'.ownsRow (w.alloc (.cells #[.map none] 84)).heap.size 9 1 v ss.length ((ss.mergeSort (fun x y => decide (x ≤ y))).map encStr) ∧ (v = .slice none 0 0 ↔ ss = []) ∧ Below (w.alloc (.cells #[.map none] 84)).heap.size (w.alloc (.cells #[.map none] 84)) w' := by
  have hseq : SeqGives Fence.wide 2 Tryz.prog 85 #[.pointer (some ⟨w.heap.size, 0, none⟩)] encStr (fun ss : List (List UInt8) => ss = []) 0 (w.alloc (.cells #[.map none] 84)) :=
    AnyZ.keys_gives_nil (ρ := Tryz.keys62_ren) { Tryz.keys62 with } Fence.wide _ trivial rfl w.heap.size _ (by simp) (by simp)
  exact AnyZ.sorted_in Tryz.sorted61 Fence.wide 5 trivial trivial trivial trivial rfl (by omega) (Tryz.sorts61 _) (enters_of Tryz.func84 (by kernel_rfl) rfl) 85 #[.pointer (some ⟨w.heap.size, 0, none⟩)] trivial (enters_of Tryz.func85 (by kernel_rfl) rfl) _ 0 (Nat.zero_le _) (by omega) _ hseq
end Go.Proofs
end

/- A directory's names in order: what the kit's contracts ask of a map. -/
section
namespace Go.Proofs.YtdjoahhcmkedhaaGreatDoor
open Go.RowKit Go.Maps
open Go.ChangeMaps (setBlock)
open Go.WideElems (Fit rd rg)
set_option linter.unusedVariables false
set_option linter.unusedSimpArgs false
set_option maxRecDepth 100000

abbrev noR : Value → Option (DataW Unit × List MemPlace) := fun _ => some (.nil, [])
def sOf (v : Value) : List UInt8 := match v with
  | .string s => s.data.toList
  | _ => []
theorem owns_of {w : World} {b : Nat} {o : Obj} {kids : List (ByteArray × Int)} (h : MapO KS o (kidsV kids)) (hb : w.heap[b]? = some o) (hd : (kids.map (·.1)).Nodup) (hs : ∀ p ∈ kids, p.1.size ≤ maxLen) (hn : kids.length ≤ maxLen) :
    ∃ D0 : DataW Unit, w.ownsMap Tryz.prog 9 noR b kids.length D0 ∧ (strKeys D0).Perm (kids.map fun p => p.1.data.toList) ∧ Maps.size D0 = kids.length := by
  obtain ⟨es, clock, rfl, h1, h2, h3⟩ := h
  have hk : es.toList.map (·.key) = kids.map fun p => KS p.1 := by
    have := congrArg (List.map (·.1)) h1
    rw [List.map_map, List.map_map] at this
    rw [show es.toList.map (·.key) = es.toList.map ((fun p : Value × Value => p.1) ∘ fun e => (e.key, e.val)) from rfl, this]
    unfold kidsV
    rw [List.map_map]; rfl
  have hsz : es.size = kids.length := by
    have := congrArg List.length hk
    simpa using this
  have hkey : ∀ x ∈ es.toList, ∃ s : ByteArray, x.key = .string s ∧ s.size ≤ maxLen := fun x hx => by
    have : x.key ∈ kids.map fun p => KS p.1 := by rw [← hk]; exact List.mem_map.2 ⟨x, hx, rfl⟩
    obtain ⟨p, hp, e⟩ := List.mem_map.1 this
    exact ⟨p.1, e.symm, hs p hp⟩
  have hrd : ∀ x ∈ es.toList, rd Tryz.prog 9 noR x = some (.string (sOf x.key), .nil) := fun x hx => by
    obtain ⟨s, e, hs⟩ := hkey x hx
    unfold rd
    rw [e, Go.WideMaps.keyOf_string_mk Tryz.underlying9 hs]; rfl
  refine ⟨_, ⟨es, clock, hb, ⟨by omega, ⟨h3, h2, ?_⟩, fun x hx => ⟨_, hrd x hx⟩⟩, by omega, rfl⟩, ?_, ?_⟩
  · rw [hk]
    have : (kids.map fun p => KS p.1) = (kids.map (·.1)).map KS := by rw [List.map_map]; rfl
    rw [this]
    exact hd.map (f := KS) (fun a b hne e => hne (by injection e))
  · have hp := (Go.WideShapes.sorted_perm (es.toList.map (rg Tryz.prog 9 noR))).map (fun p => strOf p.1)
    refine List.Perm.trans hp ?_
    rw [List.map_map]
    have e1 : es.toList.map ((fun p : Lit × DataW Unit => strOf p.1) ∘ rg Tryz.prog 9 noR) = es.toList.map fun x => sOf x.key := List.map_congr_left fun x hx => by
      simp only [Function.comp, rg, hrd x hx]; rfl
    rw [e1, show (es.toList.map fun x => sOf x.key) = (es.toList.map (·.key)).map sOf by rw [List.map_map]; rfl, hk, List.map_map]
    exact List.Perm.refl _
  · rw [Maps.size_eq, Go.length_sorted, List.length_map]
    simpa using hsz
end Go.Proofs.YtdjoahhcmkedhaaGreatDoor
end

/- List, of a directory. -/
section
namespace Go.Proofs.YtdjoahhcmkedhaaGreatDoor
open Go.RowKit Go.Maps Go.Shelf
open Go.ChangeMaps (setBlock)
set_option linter.unusedVariables false
set_option linter.unusedSimpArgs false
set_option maxRecDepth 100000

set_option maxHeartbeats 2000000 in
theorem list_dir {w : World} {D : Value → List Int → Prop} {t : Nat} {T : Tr} (H : TreeIn (inW w) D t T) (G : Good T) (s : ByteArray) (hs : s.size ≤ maxLen) (hm : Mx w) {n : Nd} (hn : standT T s.data.toList = some n) {k : Nat} (hk : n.k = some k)
    (hnd : (n.kids.map (·.1)).Nodup) (hkz : ∀ p ∈ n.kids, p.1.size ≤ maxLen) (hlen : n.kids.length ≤ 1000000) :
    Calls Tryz.prog 29 #[.pointer (some ⟨t, 0, none⟩), .string s] w fun e w' => ∃ (v : Value) (ss : List (List UInt8)), e = .returned (.tuple #[v, .int .i64 0]) ∧ ss.Perm (n.kids.map fun p => p.1.data.toList) ∧
      w'.ownsRow w.heap.size 9 1 v ss.length ((ss.mergeSort (fun x y => decide (x ≤ y))).map encStr) ∧ Below w.heap.size w w' := by
  have hst := stands_any H G s hs hm
  rw [hn] at hst
  dsimp only [ptrOf] at hst
  obtain ⟨i, hi⟩ := stand_mem hn
  have hgen : ∀ w2, Below w.heap.size w w2 → Calls Tryz.prog 58 #[.pointer (some ⟨n.b, 0, none⟩)] w2 (fun e w' => e = .returned (.bool true) ∧ w2 = w') ∧ w2.cell? ⟨n.b, 0, none⟩ = some (.map (some k)) ∧
      ∃ D0 : DataW Unit, w2.ownsMap Tryz.prog 9 noR k n.kids.length D0 ∧ (strKeys D0).Perm (n.kids.map fun p => p.1.data.toList) ∧ Maps.size D0 = n.kids.length := by
    intro w2 hb
    have hN := (H.later hb).node _ hi
    have hd := dir_any hN
    rw [show n.k.isSome = true by rw [hk]; rfl] at hd
    have h0 := hN.at0.1
    simp only [hk] at h0
    obtain ⟨o, h1, h2⟩ := hN.kid k hk
    exact ⟨hd, h0, owns_of h2 h1 hnd hkz (by unfold maxLen; omega)⟩
  have hml : n.kids.length ≤ maxLen := by unfold maxLen; omega
  have hby : n.kids.length * 16 ≤ 140737488355328 := by omega
  clear H G hn hi hk hnd hkz
  refine (callsIn_wide (n := 6)).1 ?_
  have hfA : Fence.wide.fn 57 := trivial
  have hfB : Fence.wide.fn 58 := trivial
  have hfK : Fence.wide.fn 62 := trivial
  have hfS : Fence.wide.fn 61 := trivial
  refine callsIn_of_wp Tryz.func29 rfl trivial ?_ rfl
  simp only [Tryz.ntmps29, List.size_toArray, List.length_cons, List.length_nil, Nat.reduceAdd, Nat.reduceSub, Array.replicate_succ, Array.replicate_zero, List.push_toArray, List.append_toArray, List.nil_append, List.cons_append]
  gi_wp2_with (first
    | (gi_at_call 57; refine (callsIn_wide.2 hst).mono ?_; rintro e w2 ⟨rfl, hb2⟩; obtain ⟨hd2, n0, D0, hown, hperm, hsz0⟩ := hgen w2 hb2)
    | (gi_at_call 58; refine (callsIn_wide.2 hd2).mono ?_; rintro e w' ⟨rfl, rfl⟩)
    | (gi_at_call 62; refine (Tryz.maps_Keys_62 _ _).mono ?_; rintro e w' ⟨rfl, rfl⟩)
    | (gi_at_call 61; refine (Tryz.slices_Sorted_keys_61_62 k n.kids.length D0 noR w2 hown (by rw [hsz0]; exact hml) (by rw [hsz0]; exact hby)).mono ?_; rintro e w' ⟨v, ss, rfl, hS, hrow, hnil, hb⟩))
  have hle : w.heap.size ≤ (w2.alloc (.cells #[.map (some k)] 84)).heap.size := by have := hb2.size; simp; omega
  go_ret2
  exact ⟨v, ss, rfl, hS.trans hperm, ownsRow_base hrow hle, (hb2.alloc hb2.size _).trans (hb.mono hle)⟩
end Go.Proofs.YtdjoahhcmkedhaaGreatDoor
end

/- Do of operations that the caller has written out; what is asked of a tree behind it. -/
section
namespace Go.Proofs.YtdjoahhcmkedhaaGreatDoor
open Go.RowKit
open Go.ChangeMaps (setBlock)
set_option linter.unusedVariables false
set_option linter.unusedSimpArgs false
set_option maxRecDepth 100000

theorem flat4 (ls : List (List Value)) (h : ∀ l ∈ ls, l.length = 4) (i : Nat) (hi : i < ls.length) (j : Nat) (hj : j < 4) : ls.flatten[i * 4 + j]? = ls[i][j]? := by
  induction ls generalizing i with
  | nil => simp at hi
  | cons l r ih =>
    have hl := h l (List.mem_cons_self ..)
    rw [List.flatten_cons]
    cases i with
    | zero =>
      rw [Nat.zero_mul, Nat.zero_add, List.getElem?_append_left (by omega)]; rfl
    | succ i =>
      rw [List.getElem?_append_right (by omega), show (i + 1) * 4 + j - l.length = i * 4 + j by omega]
      exact ih (fun x hx => h x (List.mem_cons_of_mem _ hx)) i (by simpa using hi)
theorem OpIn.mono {w0 : World} {S S' : Blocks} {L : List Rw} {o : OpD} {x : OpE} (h : OpIn w0 S L o x) (hs : ∀ b x, (b, x) ∈ S → (b, x) ∈ S') : OpIn w0 S' L o x :=
  ⟨h.kind, h.l, h.l2, h.p, h.q, h.n, h.data.mono hs (fun _ _ _ h => h) (fun _ h => h)⟩
/-- A tree of the law's, as plain data. -/
def Live (w0 : World) (L : List Rw) (t : Nat) (E : Et) (w : World) : Prop := ∃ S L' T, Own ⟨w0, S⟩ w L' ∧ (∀ x ∈ L, x ∈ L') ∧ Tree S (Pc L') t T ∧ Rep T E
theorem do_lit {w0 w : World} {S : Blocks} {L : List Rw} {t : Nat} {T : Tr} {E E' : Et} (hO : Own ⟨w0, S⟩ w L) (H : Tree S (Pc L) t T) (hR : Rep T E) (hmx : Mx w0) (ops : List OpD) (xs : List OpE) (C : Array Value) (hC : C.toList = (ops.map OpD.cells).flatten) (cap : Nat) (hlen : xs.length = ops.length) (hn : ops.length ≤ 1000000)
    (hin : ∀ i (h : i < ops.length), OpIn w0 S L ops[i] (xs[i]'(by omega)))
    (hE : doAllE E xs = some E') (h1 : 2 ≤ E.next) (h2 : E.next ≤ 900000000) (h3 : E'.nodes.length ≤ 128) (h4 : (sumE E'.nodes : Int) ≤ E'.quota) (h5 : sumE E'.nodes ≤ 1000000000) :
    Calls Tryz.prog 14 #[.pointer (some ⟨t, 0, none⟩), .slice (some ⟨w.heap.size, 0, none⟩) ops.length cap] (w.alloc (.cells C 38)) fun e w' => e = .returned (.int .i64 0) ∧ Live w0 L t E' w' := by
  have hO1 := hO.newB (.cells C 38)
  have H1 := H.mono (D2 := Pc L) (S2 := (w.heap.size, .cells C 38) :: S) (fun b x _ hx => List.mem_cons_of_mem _ hx) (fun _ _ h => h)
  refine (Do_ok hO1 H1 hR hmx w.heap.size 0 ops xs cap hlen hn (fun w' S' L' k1 k2 i hi => ?_) (fun i hi => (hin i hi).mono fun b x hb => List.mem_cons_of_mem _ hb) hE h1 h2 h3 h4 h5).mono fun e w' hd => ?_
  · intro j v hv
    have hc := k1.cellB (k2 _ _ (List.mem_cons_self ..)) (0 + i * 4 + j)
    rw [hc]
    have hj : j < 4 := by
      have := (List.getElem?_eq_some_iff.1 hv).1
      simpa [OpD.cells, opL] using this
    rw [← Array.getElem?_toList, hC, Nat.zero_add, flat4 _ (fun l hl => by
      obtain ⟨o, _, rfl⟩ := List.mem_map.1 hl
      rfl) i (by simpa using hi) j hj, List.getElem_map]
    exact hv
  · obtain ⟨S', L', T', e1, e2, e3, e4, e5, e6⟩ := hd
    exact ⟨e1, S', L', T', e2, e3, e4, e6⟩
end Go.Proofs.YtdjoahhcmkedhaaGreatDoor
end

/- What is asked of a tree, against the plain state. -/
section
namespace Go.Proofs.YtdjoahhcmkedhaaGreatDoor
open Go.RowKit
open Go.ChangeMaps (setBlock)
set_option linter.unusedVariables false
set_option linter.unusedSimpArgs false
set_option maxRecDepth 100000

theorem Live.later {w0 w w' : World} {L : List Rw} {t : Nat} {E : Et} (h : Live w0 L t E w) (hb : Below w.heap.size w w') : Live w0 L t E w' := by
  obtain ⟨S, L', T, h1, h2, h3, h4⟩ := h
  exact ⟨S, L', T, h1.later hb, h2, h3, h4⟩
theorem Live.join {w0 w w' : World} {L M : List Rw} {t : Nat} {E : Et} (h : Live w0 L t E w) (hM : Own w w' M) : Live w0 (M ++ L) t E w' := by
  obtain ⟨S, L', T, h1, h2, h3, h4⟩ := h
  refine ⟨S, M ++ L', T, h1.join hM, fun x hx => ?_, h3.mono (fun b x _ hx => hx) (fun v zs h => h.mono fun r hr => List.mem_append_right _ hr), h4⟩
  rcases List.mem_append.1 hx with hx | hx
  · exact List.mem_append_left _ hx
  · exact List.mem_append_right _ (h2 x hx)
theorem Live.less {w0 w : World} {L M : List Rw} {t : Nat} {E : Et} (h : Live w0 L t E w) (hs : ∀ x ∈ M, x ∈ L) : Live w0 M t E w := by
  obtain ⟨S, L', T, h1, h2, h3, h4⟩ := h
  exact ⟨S, L', T, h1, fun x hx => h2 x (hs x hx), h3, h4⟩
theorem Live.mx {w0 w : World} {L : List Rw} {t : Nat} {E : Et} (h : Live w0 L t E w) (hm : Mx w0) : Mx w := by
  obtain ⟨S, L', T, h1, _⟩ := h
  exact hm.later h1.below
theorem Live.by {w0 w : World} {L : List Rw} {t : Nat} {E : Et} (h : Live w0 L t E w) {v : Value} {zs : List Int} (hr : rowU v zs ∈ L) (hz : Byts zs) : By w v zs := by
  obtain ⟨S, L', T, h1, h2, _⟩ := h
  exact (h1.only (h2 _ hr)).by hz
def standE (E : Et) (l : List UInt8) : Option ENd := (if okP l then walkE E 1 (namesL l) else none).bind fun i => look E.nodes i
theorem Rep.stand {T : Tr} {E : Et} (h : Rep T E) (hd : (T.nodes.map (·.1)).Nodup) (l : List UInt8) : (standT T l).map Nd.er = standE E l := by
  unfold standT standE findT
  cases hk : okP l with
  | false => rfl
  | true =>
    simp only [if_true]
    rw [h.walk hd]
    cases walkE E 1 (namesL l) with
    | none => rfl
    | some i => exact h.look hd i
theorem live_read {w0 w : World} {L : List Rw} {t : Nat} {E : Et} (h : Live w0 L t E w) (hm : Mx w0) (s : ByteArray) (hs : s.size ≤ maxLen) {f : ENd} (hf : standE E s.data.toList = some f) (hd : f.dir = false) (hl : f.data.length ≤ 140737488355328) :
    Calls Tryz.prog 26 #[.pointer (some ⟨t, 0, none⟩), .string s] w fun e w' => ∃ v, e = .returned (.tuple #[v, .int .i64 0]) ∧ Live w0 (rowU v f.data :: L) t E w' := by
  have hmw := h.mx hm
  have hh := h
  obtain ⟨S, L', T, h1, h2, h3, h4⟩ := h
  have hst := h4.stand h3.good.keys s.data.toList
  rw [hf] at hst
  cases hn : standT T s.data.toList with
  | none => rw [hn] at hst; cases hst
  | some n =>
    rw [hn] at hst
    have e : n.er = f := by injection hst
    have hk : n.k = none := by
      have : n.k.isSome = false := (congrArg ENd.dir e).trans hd
      cases hk : n.k with
      | none => rfl
      | some k => rw [hk] at this; cases this
    have hda : n.data = f.data := congrArg ENd.data e
    refine (read_file h1 h3 s hs hmw hn hk (by rw [hda]; exact hl)).mono fun e w' hr => ?_
    obtain ⟨v, e1, e2⟩ := hr
    rw [hda] at e2
    exact ⟨v, e1, hh.join e2⟩
theorem live_used {w0 w : World} {L : List Rw} {t : Nat} {E : Et} (h : Live w0 L t E w) (hu : sumE E.nodes ≤ 1000000000) :
    Calls Tryz.prog 25 #[.pointer (some ⟨t, 0, none⟩)] w fun e w' => e = .returned (.int .i64 (sumE E.nodes : Nat)) ∧ Live w0 L t E w' := by
  have hh := h
  obtain ⟨S, L', T, h1, h2, h3, h4⟩ := h
  have := used_any (h3.at_.inWorld h1) (by rw [h4.sum]; exact hu)
  rw [h4.sum] at this
  exact this.mono fun e w' hr => ⟨hr.1, hh.later hr.2⟩
theorem live_nodes {w0 w : World} {L : List Rw} {t : Nat} {E : Et} (h : Live w0 L t E w) :
    Calls Tryz.prog 24 #[.pointer (some ⟨t, 0, none⟩)] w fun e w' => e = .returned (.int .i64 (E.nodes.length : Int)) ∧ w = w' := by
  obtain ⟨S, L', T, h1, h2, h3, h4⟩ := h
  have := nodes_any (h3.at_.inWorld h1)
  rwa [h4.count] at this
theorem live_dir {w0 w : World} {L : List Rw} {t : Nat} {E : Et} (h : Live w0 L t E w) (hm : Mx w0) (s : ByteArray) (hs : s.size ≤ maxLen) :
    Calls Tryz.prog 27 #[.pointer (some ⟨t, 0, none⟩), .string s] w fun e w' => e = .returned (.bool (match standE E s.data.toList with | some n => n.dir | none => false)) ∧ Live w0 L t E w' := by
  have hmw := h.mx hm
  have hh := h
  obtain ⟨S, L', T, h1, h2, h3, h4⟩ := h
  have hst := h4.stand h3.good.keys s.data.toList
  have hi := isdir_any (h3.at_.inWorld h1) h3.good s hs hmw
  have e : dirT T s.data.toList = (match standE E s.data.toList with | some n => n.dir | none => false) := by
    unfold dirT
    rw [← hst]
    cases standT T s.data.toList <;> rfl
  rw [e] at hi
  exact hi.mono fun e w' hr => ⟨hr.1, hh.later hr.2⟩
/-- The files that stand nowhere. -/
def looseE (l : List (Int × ENd)) : List Int := (l.filter fun p => !p.2.dir && (p.2.places == 0)).map (·.1)
theorem looseL_er (l : List (Int × Nd)) : looseL l = looseE (erL l) := by
  unfold looseL looseE erL
  induction l with
  | nil => rfl
  | cons p r ih =>
    simp only [List.map_cons, List.filter_cons]
    have e : p.2.loose = (!p.2.er.dir && (p.2.er.places == 0)) := rfl
    rw [e]
    split
    · simp only [List.map_cons]; rw [ih]
    · exact ih
theorem live_loose {w0 w : World} {L : List Rw} {t : Nat} {E : Et} (h : Live w0 L t E w) (hn : E.nodes.length ≤ 4294967296) :
    Calls Tryz.prog 28 #[.pointer (some ⟨t, 0, none⟩)] w fun e w' => ∃ (v : Value) (zs : List Int), e = .returned v ∧ zs.Perm (looseE E.nodes) ∧ Live w0 (rowI v (zs.mergeSort fun x y => decide (x ≤ y)) :: L) t E w' := by
  have hh := h
  obtain ⟨S, L', T, h1, h2, h3, h4⟩ := h
  refine (loose_t (h3.at_.inWorld h1) (by rw [h4.count]; exact hn)).mono fun e w' hr => ?_
  obtain ⟨v, zs, e1, e2, e3⟩ := hr
  refine ⟨v, zs, e1, e2.trans ?_, hh.join e3⟩
  rw [looseL_er]
  exact (h4.nodes.filter _).map _
end Go.Proofs.YtdjoahhcmkedhaaGreatDoor
end

/- List, against the plain state. -/
section
namespace Go.Proofs.YtdjoahhcmkedhaaGreatDoor
open Go.RowKit
open Go.ChangeMaps (setBlock)
set_option linter.unusedVariables false
set_option linter.unusedSimpArgs false
set_option maxRecDepth 100000

def rowT (v : Value) (ls : List (List UInt8)) : Rw := ⟨9, 1, v, ls.length, ls.map encStr⟩
theorem live_list {w0 w : World} {L : List Rw} {t : Nat} {E : Et} (h : Live w0 L t E w) (hm : Mx w0) (s : ByteArray) (hs : s.size ≤ maxLen) {f : ENd} (hf : standE E s.data.toList = some f) (hd : f.dir = true) (hnd : (f.kids.map (·.1)).Nodup) (hkz : ∀ p ∈ f.kids, p.1.size ≤ maxLen) (hlen : f.kids.length ≤ 1000000) :
    Calls Tryz.prog 29 #[.pointer (some ⟨t, 0, none⟩), .string s] w fun e w' => ∃ (v : Value) (ss : List (List UInt8)), e = .returned (.tuple #[v, .int .i64 0]) ∧ ss.Perm (f.kids.map fun p => p.1.data.toList) ∧ Live w0 (rowT v (ss.mergeSort fun x y => decide (x ≤ y)) :: L) t E w' := by
  have hmw := h.mx hm
  have hh := h
  obtain ⟨S, L', T, h1, h2, h3, h4⟩ := h
  have hst := h4.stand h3.good.keys s.data.toList
  rw [hf] at hst
  cases hn : standT T s.data.toList with
  | none => rw [hn] at hst; cases hst
  | some n =>
    rw [hn] at hst
    have e : n.er = f := by injection hst
    have hki : n.kids = f.kids := congrArg ENd.kids e
    have hk : n.k.isSome = true := (congrArg ENd.dir e).trans hd
    cases hk2 : n.k with
    | none => rw [hk2] at hk; cases hk
    | some k =>
      refine (list_dir (h3.at_.inWorld h1) h3.good s hs hmw hn hk2 (by rw [hki]; exact hnd) (by rw [hki]; exact hkz) (by rw [hki]; exact hlen)).mono fun e w' hr => ?_
      obtain ⟨v, ss, e1, e2, e3, e4⟩ := hr
      rw [hki] at e2
      have hl : (ss.mergeSort fun x y => decide (x ≤ y)).length = ss.length := List.length_mergeSort _
      have hO : Own w w' [rowT v (ss.mergeSort fun x y => decide (x ≤ y))] := ⟨e4, fun p hp => by
        rw [List.mem_singleton.1 hp]
        show w'.ownsRow _ _ 1 v (ss.mergeSort fun x y => decide (x ≤ y)).length _
        rw [hl]; exact e3, List.pairwise_singleton _ _, (fun m hm => by cases hm), (fun m hm => by cases hm)⟩
      exact ⟨v, ss, e1, e2, hh.join hO⟩
end Go.Proofs.YtdjoahhcmkedhaaGreatDoor
end

/- The document's example: its operations. -/
section
namespace Go.Proofs.YtdjoahhcmkedhaaGreatDoor
open Go.RowKit
open Go.ChangeMaps (setBlock)
set_option linter.unusedVariables false
set_option linter.unusedSimpArgs false
set_option maxRecDepth 100000

theorem conv_const (W : World) (C : Array Value) (n c : Nat) : Sem.run Tryz.prog (convert 36 36 (.slice (some ⟨W.heap.size, 0, none⟩) n c)) (W.alloc (.cells C 5)) = .ok (.slice (some ⟨W.heap.size, 0, none⟩) n c) (W.alloc (.cells C 5 (C.size, C.size + 1))) := Lib.run_convert_bytes_const W 36 5 C n c Tryz.underlying36 Tryz.underlying5
theorem one_byts : Byts one := by unfold one Byts; decide
theorem two_byts : Byts two := by unfold two Byts; decide
abbrev bytesAt (b : Nat) : Value := .slice (some ⟨b, 0, none⟩) 3 3
abbrev litO (a b c : Int) : Obj := .cells #[.int .u8 a, .int .u8 b, .int .u8 c] 5 (3, 4)
theorem op_none {w0 : World} {S : Blocks} {L : List Rw} (k : Int) (p q : ByteArray) (hp : p.size ≤ 1000) (hq : q.size ≤ 1000) : OpIn w0 S L ⟨k, p, q, none, 0, 0⟩ ⟨k, p.data.toList, q.data.toList, []⟩ :=
  ⟨rfl, rfl, rfl, by unfold maxLen; show p.size ≤ _; omega, by unfold maxLen; show q.size ≤ _; omega, rfl, .inl (Pc.nil L)⟩
theorem op_bytes {w0 : World} {S : Blocks} {L : List Rw} (k : Int) (p q : ByteArray) (hp : p.size ≤ 1000) (hq : q.size ≤ 1000) {a : Option Addr} {n c : Nat} {zs : List Int} (hn : n = zs.length) (hd : Byo w0 S [] L (.slice a n c) zs) : OpIn w0 S L ⟨k, p, q, a, n, c⟩ ⟨k, p.data.toList, q.data.toList, zs⟩ :=
  ⟨rfl, rfl, rfl, by unfold maxLen; show p.size ≤ _; omega, by unfold maxLen; show q.size ≤ _; omega, hn, hd⟩
theorem Live.lit {w0 w : World} {L : List Rw} {t : Nat} {E : Et} (h : Live w0 L t E w) (o : Obj) : ∃ S L' T, Own ⟨w0, (w.heap.size, o) :: S⟩ (w.alloc o) L' ∧ (∀ x ∈ L, x ∈ L') ∧ Tree ((w.heap.size, o) :: S) (Pc L') t T ∧ Rep T E := by
  obtain ⟨S, L', T, h1, h2, h3, h4⟩ := h
  exact ⟨S, L', T, h1.newB o, h2, h3.mono (fun b x _ hx => List.mem_cons_of_mem _ hx) (fun _ _ h => h), h4⟩
/-- The first three operations. -/
theorem alive_do1 {w w1 : World} {t : Nat} (hm : Mx w) (h : Live w [] t (E0 10) w1) :
    Calls Tryz.prog 14 #[.pointer (some ⟨t, 0, none⟩), .slice (some ⟨w1.heap.size + 1, 0, none⟩) 3 3] ((w1.alloc (litO 111 110 101)).alloc (.cells #[.int .i64 0, .string (toB pA), .string ⟨#[]⟩, .slice none 0 0, .int .i64 2, .string (toB pAF), .string ⟨#[]⟩, bytesAt w1.heap.size, .int .i64 4, .string (toB pAF), .string (toB pG), .slice none 0 0] 38))
      fun e w' => e = .returned (.int .i64 0) ∧ Live w [] t EA1 w' := by
  obtain ⟨S, L', T, h1, h2, h3, h4⟩ := h.lit (litO 111 110 101)
  have hb : Byo w ((w1.heap.size, litO 111 110 101) :: S) [] L' (bytesAt w1.heap.size) one := .inr (.inr ⟨w1.heap.size, _, _, _, List.mem_cons_self .., (by simp), rfl, rfl, one_byts, by decide⟩)
  have hd := do_lit h1 h3 h4 hm [⟨0, toB pA, ⟨#[]⟩, none, 0, 0⟩, ⟨2, toB pAF, ⟨#[]⟩, some ⟨w1.heap.size, 0, none⟩, 3, 3⟩, ⟨4, toB pAF, toB pG, none, 0, 0⟩]
    [⟨0, pA, [], []⟩, ⟨2, pAF, [], one⟩, ⟨4, pAF, pG, []⟩] #[.int .i64 0, .string (toB pA), .string ⟨#[]⟩, .slice none 0 0, .int .i64 2, .string (toB pAF), .string ⟨#[]⟩, bytesAt w1.heap.size, .int .i64 4, .string (toB pAF), .string (toB pG), .slice none 0 0] rfl 3 rfl (by show 3 ≤ 1000000; decide)
    (fun i hi => by
      match i, hi with
      | 0, _ => exact op_none 0 (toB pA) ⟨#[]⟩ (by decide) (by decide)
      | 1, _ => exact op_bytes 2 (toB pAF) ⟨#[]⟩ (by decide) (by decide) rfl hb
      | 2, _ => exact op_none 4 (toB pAF) (toB pG) (by decide) (by decide)
      | n + 3, h => exact absurd h (by simp))
    alive1 (by decide) (by decide) (by decide) (by decide) (by decide)
  rw [show (w1.alloc (litO 111 110 101)).heap.size = w1.heap.size + 1 by simp] at hd
  exact hd.mono fun e w' h => ⟨h.1, h.2.less fun x hx => by cases hx⟩
theorem alive_do2 {w w1 : World} {t : Nat} (hm : Mx w) (h : Live w [] t EA1 w1) :
    Calls Tryz.prog 14 #[.pointer (some ⟨t, 0, none⟩), .slice (some ⟨w1.heap.size + 1, 0, none⟩) 2 2] ((w1.alloc (litO 116 119 111)).alloc (.cells #[.int .i64 2, .string (toB pH), .string ⟨#[]⟩, bytesAt w1.heap.size, .int .i64 5, .string (toB pH), .string (toB pAF), .slice none 0 0] 38))
      fun e w' => e = .returned (.int .i64 0) ∧ Live w [] t EA2 w' := by
  obtain ⟨S, L', T, h1, h2, h3, h4⟩ := h.lit (litO 116 119 111)
  have hb : Byo w ((w1.heap.size, litO 116 119 111) :: S) [] L' (bytesAt w1.heap.size) two := .inr (.inr ⟨w1.heap.size, _, _, _, List.mem_cons_self .., (by simp), rfl, rfl, two_byts, by decide⟩)
  have hd := do_lit h1 h3 h4 hm [⟨2, toB pH, ⟨#[]⟩, some ⟨w1.heap.size, 0, none⟩, 3, 3⟩, ⟨5, toB pH, toB pAF, none, 0, 0⟩]
    [⟨2, pH, [], two⟩, ⟨5, pH, pAF, []⟩] #[.int .i64 2, .string (toB pH), .string ⟨#[]⟩, bytesAt w1.heap.size, .int .i64 5, .string (toB pH), .string (toB pAF), .slice none 0 0] rfl 2 rfl (by show 2 ≤ 1000000; decide)
    (fun i hi => by
      match i, hi with
      | 0, _ => exact op_bytes 2 (toB pH) ⟨#[]⟩ (by decide) (by decide) rfl hb
      | 1, _ => exact op_none 5 (toB pH) (toB pAF) (by decide) (by decide)
      | n + 2, h => exact absurd h (by simp))
    alive2 (by decide) (by decide) (by decide) (by decide) (by decide)
  rw [show (w1.alloc (litO 116 119 111)).heap.size = w1.heap.size + 1 by simp] at hd
  exact hd.mono fun e w' h => ⟨h.1, h.2.less fun x hx => by cases hx⟩
theorem alive_do3 {w w1 : World} {L : List Rw} {t : Nat} (hm : Mx w) (h : Live w L t EA2 w1) :
    Calls Tryz.prog 14 #[.pointer (some ⟨t, 0, none⟩), .slice (some ⟨w1.heap.size, 0, none⟩) 1 1] (w1.alloc (.cells #[.int .i64 6, .string (toB pG), .string ⟨#[]⟩, .slice none 0 0] 38))
      fun e w' => e = .returned (.int .i64 0) ∧ Live w L t EA3 w' := by
  obtain ⟨S, L', T, h1, h2, h3, h4⟩ := h
  have hd := do_lit h1 h3 h4 hm [⟨6, toB pG, ⟨#[]⟩, none, 0, 0⟩] [⟨6, pG, [], []⟩] #[.int .i64 6, .string (toB pG), .string ⟨#[]⟩, .slice none 0 0] rfl 1 rfl (by show 1 ≤ 1000000; decide)
    (fun i hi => by
      match i, hi with
      | 0, _ => exact op_none 6 (toB pG) ⟨#[]⟩ (by decide) (by decide)
      | n + 1, h => exact absurd h (by simp))
    alive3 (by decide) (by decide) (by decide) (by decide) (by decide)
  exact hd.mono fun e w' h => ⟨h.1, h.2.less h2⟩
end Go.Proofs.YtdjoahhcmkedhaaGreatDoor
end

/- The document's example: alive. -/
section
namespace Go.Proofs.YtdjoahhcmkedhaaGreatDoor
open Go.RowKit
open Go.ChangeMaps (setBlock)
set_option linter.unusedVariables false
set_option linter.unusedSimpArgs false
set_option maxRecDepth 100000

theorem Live.row {w0 w : World} {L : List Rw} {t : Nat} {E : Et} (h : Live w0 L t E w) {r : Rw} (hr : r ∈ L) : ∃ S, Own ⟨w0, S⟩ w [r] := by
  obtain ⟨S, L', T, h1, h2, _⟩ := h
  exact ⟨S, h1.only (h2 _ hr)⟩
theorem Live.below {w0 w : World} {L : List Rw} {t : Nat} {E : Et} (h : Live w0 L t E w) : Below w0.heap.size w0 w := by
  obtain ⟨S, L', T, h1, _⟩ := h
  exact h1.below
theorem perm_one {α : Type} {l : List α} {a : α} (h : l.Perm [a]) : l = [a] := List.perm_singleton.1 h
theorem two_str : strOfNums two = { data := #[116, 119, 111] } := rfl
theorem one_str : strOfNums one = { data := #[111, 110, 101] } := rfl
def root3 : ENd := ⟨true, [(toB [97], 2)], [], 0⟩
set_option maxHeartbeats 4000000 in
theorem alive_any (w : World) (hm : Mx w) : Calls Tryz.prog 7 #[] w fun e w' => e = .returned (.bool true) ∧ Below w.heap.size w w' := by
  have hcs := conv_const
  have hnew := tnew_any (D := Pc []) (Own.start w) (Pc.nil []) 10 (by decide)
  go_enter Tryz.func7, Tryz.ntmps7
  go_wp2_with fail
  refine hnew.mono ?_
  rintro e w1 ⟨S1, rfl, hO1, H1, _⟩
  have hL1 : Live w [] (w.heap.size + 3) (E0 10) w1 := ⟨S1, [], _, hO1, fun _ h => h, H1, new_rep _ 10⟩
  generalize w.heap.size + 3 = t at *
  have hdo1 := alive_do1 hm hL1
  clear hnew hO1 H1 hL1
  go_wp2_with fail
  refine hdo1.mono ?_
  rintro e w2 ⟨rfl, hL2⟩
  have hdo2 := alive_do2 hm hL2
  clear hdo1 hL2
  go_wp2_with fail
  refine hdo2.mono ?_
  rintro e w3 ⟨rfl, hL3⟩
  have hr1 := live_read hL3 hm (toB pAF) (by decide) (f := ⟨false, [], two, 1⟩) (by rfl) rfl (by decide)
  clear hdo2 hL3
  go_wp2_with fail
  refine hr1.mono ?_
  rintro e w4 ⟨v4, rfl, hL4⟩
  obtain ⟨_, ho4⟩ := hL4.row (List.mem_cons_self ..)
  obtain ⟨a4, c4, rfl, _, _⟩ := Own.sized (h := (show Own _ w4 (⟨5, 1, v4, two.length, bs two⟩ :: []) from ho4))
  have hr2 := live_read hL4 hm (toB pG) (by decide) (f := ⟨false, [], one, 1⟩) (by rfl) rfl (by decide)
  clear hr1 hL4 ho4
  go_wp2_with fail
  refine hr2.mono ?_
  rintro e w5 ⟨v5, rfl, hL5⟩
  obtain ⟨_, ho5⟩ := hL5.row (List.mem_cons_self ..)
  obtain ⟨a5, c5, rfl, _, _⟩ := Own.sized (h := (show Own _ w5 (⟨5, 1, v5, one.length, bs one⟩ :: []) from ho5))
  have hdo3 := alive_do3 hm hL5
  clear hr2 hL5 ho5
  go_wp2_with fail
  refine hdo3.mono ?_
  rintro e w6 ⟨rfl, hL6⟩
  have hli := live_list hL6 hm (toB [47]) (by decide) (f := root3) (by rfl) rfl (by decide) (fun p hp => by
    have : p = (toB [97], 2) := by simpa [root3] using hp
    subst this
    decide) (by decide)
  clear hdo3 hL6
  go_wp2_with fail
  refine hli.mono ?_
  rintro e w7 ⟨v7, ss, rfl, hss, hL7⟩
  have hss1 : ss = [[97]] := perm_one hss
  subst hss1
  clear hli hss
  have hsrt : ([[97]] : List (List UInt8)).mergeSort (fun x y => decide (x ≤ y)) = [[97]] := by simp
  rw [hsrt] at hL7
  obtain ⟨_, ho7⟩ := hL7.row (List.mem_cons_self ..)
  obtain ⟨g7, c7, rfl, _, _, _, _⟩ := Own.form (h := (show Own _ w7 (⟨9, 1, v7, 1, [encStr [97]]⟩ :: []) from ho7)) (by decide)
  have cv4 := (hL7.by (v := .slice a4 two.length c4) (zs := two) (List.mem_cons_of_mem _ (List.mem_cons_of_mem _ (List.mem_cons_self ..))) two_byts).toStr
  have cv5 := (hL7.by (v := .slice a5 one.length c5) (zs := one) (List.mem_cons_of_mem _ (List.mem_cons_self ..)) one_byts).toStr
  rw [two_str] at cv4
  rw [one_str] at cv5
  have hlo := live_loose hL7 (by decide)
  have HL7 := Lib.hid hL7
  clear ho7 hL7 hsrt
  go_wp2_with fail
  refine hlo.mono ?_
  rintro e w8 ⟨v8, zs, rfl, hz, hL8⟩
  have hz3 : zs = [3] := perm_one (by rw [show looseE EA3.nodes = [3] by rfl] at hz; exact hz)
  subst hz3
  rw [show ([3] : List Int).mergeSort (fun x y => decide (x ≤ y)) = [3] by simp] at hL8
  obtain ⟨_, ho8⟩ := hL8.row (List.mem_cons_self ..)
  obtain ⟨a8, c8, rfl, _, _⟩ := Own.sized (h := (show Own _ w8 (⟨3, 1, v8, 1, [.int .i64 3]⟩ :: []) from ho8))
  have hus := live_used hL8 (by decide)
  rw [show (sumE EA3.nodes : Nat) = 6 by decide] at hus
  clear hlo hL8 ho8 hz cv4 cv5
  go_wp2_with fail
  refine hus.mono ?_
  rintro e w9 ⟨rfl, hL9⟩
  have hno := live_nodes hL9
  rw [show (EA3.nodes.length : Int) = 4 by decide] at hno
  have hdi : Calls Tryz.prog 27 #[.pointer (some ⟨t, 0, none⟩), .string (toB pA)] w9 (fun e w' => e = .returned (.bool true) ∧ Live w _ t EA3 w') := live_dir hL9 hm (toB pA) (by decide)
  obtain ⟨_, ho9⟩ := hL9.row (r := rowT (.slice (some ⟨g7, 0, none⟩) 1 c7) [[97]]) (List.mem_cons_of_mem _ (List.mem_cons_self ..))
  have c0 : w9.cell? ⟨g7, 0, none⟩ = some (.string { data := #[97] }) := Own.cell (h := (show Own _ w9 (⟨9, 1, .slice (some ⟨g7, 0, none⟩) 1 c7, 1, [encStr [97]]⟩ :: []) from ho9)) 0 (by decide)
  clear hus hL9 ho9
  go_wp2_with (first
    | (go_at_call 24; refine hno.mono ?_; rintro e w' ⟨rfl, rfl⟩)
    | (go_at_call 27; refine hdi.mono ?_; rintro e w10 ⟨rfl, hL10⟩))
  go_ret
  exact ⟨rfl, hL10.below⟩
end Go.Proofs.YtdjoahhcmkedhaaGreatDoor
end

/- TreeBad: its arguments, what Unpack tells handed to Pack, the walk. -/
section
namespace Go.Proofs.YtdjoahhcmkedhaaGreatDoor
open Go.RowKit Go.WideShapes Go.ChangeShapes
set_option linter.unusedVariables false
set_option linter.unusedSimpArgs false
set_option maxRecDepth 100000

theorem sb_strOf (zs : List Int) (h : Byts zs) : sb (strOfNums zs) = zs := by
  unfold sb strOfNums
  simp only [List.map_map]
  conv => rhs; rw [← List.map_id zs]
  refine List.map_congr_left fun z hz => ?_
  have := h z hz
  simp
  omega
theorem cellsV2 : Tryz.prog.cellsOf 36 = 1 := by kernel_rfl
theorem open_by3 {H : Type} {enc : TypeId × Value → H} {w : World} {base fuel : Nat} {held : Bool} {v : Value} {x : DataW H × List MemPlace} (hf : DataW.trod enc Tryz.prog w base (fun _ => true) held fuel 36 [v] = some x) : ∃ zs, By w v zs := by
  rcases open_ints Tryz.underlying36 Tryz.underlying5 (by kernel_rfl) hf with ⟨hcs, _⟩ | ⟨xa, l, c, zs, hcs, _, hl, hm, hz, _, hcell, hwz⟩
  · injection hcs with hcs _
    exact ⟨[], by rw [hcs]; exact By.nil w⟩
  · injection hcs with hcs _
    have hz2 : zs.length = c := by simpa using hz
    exact ⟨zs.take l, by rw [hcs]; exact by_arg w _ _ _ zs hl hm hz2 hcell hwz⟩
theorem open_rows {H : Type} {enc : TypeId × Value → H} {w : World} {base fuel : Nat} {held : Bool} {a0 : Option Addr} {len0 cap0 : Nat} {x : DataW H × List MemPlace} (hf : DataW.trod enc Tryz.prog w base (fun _ => true) held fuel 53 [.slice a0 len0 cap0] = some x) :
    ∃ PS : List (Value × List Int), PS.length = len0 ∧ Parts w a0 PS ∧ len0 ≤ maxLen := by
  rcases Go.Deep.open_slice1 Tryz.underlying53 cellsV2 hf with ⟨h1, _⟩ | ⟨ad, len, cp, m, n, V, D, Pl, h1, hb, hl, hm, hmm, _, hx⟩
  · injection h1 with h1 _
    injection h1 with e1 e2 e3
    subst e1 e2 e3
    exact ⟨[], rfl, fun i hi => by simp at hi, Nat.zero_le _⟩
  · injection h1 with h1 _
    injection h1 with e1 e2 e3
    subst e1 e2 e3
    have hlm : len0 ≤ m := by rw [hmm]; split <;> omega
    have hz : ∀ i, ∃ zs, i < len0 → By w (V i) zs := fun i => by
      by_cases hi : i < len0
      · obtain ⟨zs, h⟩ := open_by3 (hx i (by omega)).2
        exact ⟨zs, fun _ => h⟩
      · exact ⟨[], fun h => absurd h hi⟩
    refine ⟨(List.range len0).map fun i => (V i, Classical.choose (hz i)), by simp, fun i hi => ?_, by omega⟩
    have hi' : i < len0 := by simpa using hi
    obtain ⟨b, off, spot⟩ := ad
    have hspot : spot = none := by
      have := World.cell?_spot (hx 0 (by omega)).1
      simpa [Addr.add] using this
    have hc := (hx i (by omega)).1
    subst hspot
    refine ⟨b, off, rfl, ?_, ?_⟩
    · rw [Addr.add_mid] at hc
      rw [hc]
      simp
    · simp only [List.getElem_map, List.getElem_range]
      exact Classical.choose_spec (hz i) hi'
/-- What was unpacked may be packed. -/
theorem pack_of {W0 : Base} {w : World} {L : List Rw} {v : Value} {os : List (OpD × OpB)} (hO : Own W0 w (rowO v (os.map (·.1)) :: L)) {a : Option Addr} {c : Nat} (hv : v = .slice a os.length c) (hops : ∀ x ∈ os, OpOf L x.1 x.2) (hok : ∀ x ∈ os, OkB x.2) :
    PackIn W0 (rowO v (os.map (·.1)) :: L) a (os.map fun x => (x.1, x.2.d)) ∧ packsD (os.map fun x => (x.1, x.2.d)) = packsB (os.map (·.2)) := by
  refine ⟨⟨fun w' L' h1 h2 i hi => ?_, fun w' L' h1 h2 o ho => ?_, fun o ho => ?_, fun o ho => ?_⟩, ?_⟩
  · have hi' : i < os.length := by simpa using hi
    have hr := h1.only (h2 _ (List.mem_cons_self ..))
    obtain ⟨g, cap, e, _⟩ := Own.form (h := (show Own W0 w' (⟨38, 4, v, (os.map (·.1)).length, ((os.map (·.1)).map OpD.cells).flatten⟩ :: []) from hr)) (by rw [List.length_map]; omega)
    rw [hv] at e
    injection e with e1 _ _
    refine ⟨g, 0, e1, fun j u hj => ?_⟩
    have hr2 : Own W0 w' (⟨38, 4, .slice (some ⟨g, 0, none⟩) os.length c, (os.map (·.1)).length, ((os.map (·.1)).map OpD.cells).flatten⟩ :: []) := by
      have := hr
      rw [hv, e1] at this
      exact this
    rw [List.getElem_map] at hj
    have hj4 : j < 4 := by
      have := (List.getElem?_eq_some_iff.1 hj).1
      simpa [OpD.cells, opL] using this
    rw [List.length_map] at hr2
    have hc := Own.cell (h := hr2) (0 + i * 4 + j) (by omega)
    rw [hc, Nat.zero_add, flat4 _ (fun l hl => by
      obtain ⟨o, _, rfl⟩ := List.mem_map.1 hl
      rfl) i (by simpa using hi') j hj4, List.getElem_map, List.getElem_map]
    exact hj
  · obtain ⟨x, hx, rfl⟩ := List.mem_map.1 ho
    have h3 := (hops x hx).data.mono (L' := L') fun r hr => h2 r (List.mem_cons_of_mem _ hr)
    have h4 := (hops x hx).n
    exact h3.by h1
  · obtain ⟨x, hx, rfl⟩ := List.mem_map.1 ho
    have h1 := (hok x hx).κ
    have h2 := (hops x hx).kind
    show 0 ≤ x.1.kind ∧ x.1.kind < 4294967296
    omega
  · obtain ⟨x, hx, rfl⟩ := List.mem_map.1 ho
    have h1 := hok x hx
    have h2 := hops x hx
    show x.1.p.size ≤ 100000 ∧ x.1.q.size ≤ 100000 ∧ x.2.d.length ≤ 100000
    rw [h2.p, h2.q, strOf_size, strOf_size]
    have := h1.p.2; have := h1.q.2; have := h1.d.2
    omega
  · unfold packsD packsB
    rw [List.map_map, List.map_map]
    congr 1
    refine List.map_congr_left fun x hx => ?_
    have h1 := hok x hx
    have h2 := hops x hx
    show packD x.1 x.2.d = packB x.2
    unfold packD packB
    rw [h2.kind, h2.p, h2.q, sb_strOf _ h1.p.1, sb_strOf _ h1.q.1, List.append_assoc, List.append_assoc]
theorem all_len {PS : List (Value × List Int)} (n : Nat) (h : ∀ p ∈ PS, p.2.length ≤ n) : (allOf PS).length ≤ n * PS.length := by
  unfold allOf
  induction PS with
  | nil => simp
  | cons p r ih =>
    have h1 := ih fun x hx => h x (List.mem_cons_of_mem _ hx)
    have h2 := h p (List.mem_cons_self ..)
    simp only [List.map_cons, List.flatten_cons, List.length_append, List.length_cons]
    rw [Nat.mul_succ]
    omega
set_option maxHeartbeats 8000000 in
theorem bad_law (W : World) (hm : Mx W) {a0 a1 : Option Addr} {zs : List Int} {c0 c1 : Nat} (hb : By W (.slice a0 zs.length c0) zs) {PS : List (Value × List Int)} (hP : Parts W a1 PS) (hPn : PS.length ≤ maxLen) (p : ByteArray) (hp : p.size ≤ maxLen) :
    Calls Tryz.prog 4 #[.slice a0 zs.length c0, .slice a1 PS.length c1, .string p] W fun e w' => e = .returned (.bool true) ∧ Below W.heap.size W w' := by
  have hal := alive_any W hm
  have HB := Lib.hid hb
  have HP := Lib.hid hP
  have Hm := Lib.hid hm
  have Hp := Lib.hid hp
  have Hz := Lib.hid hb.2.1
  have hcz : (zs.length : Int) ≤ maxLen := by obtain ⟨_, _, a, c, e, h1, h2⟩ := hb; exact_mod_cast (by omega)
  unfold maxLen at hcz hPn hp
  clear hb hP hm
  go_enter Tryz.func4, Tryz.ntmps4
  go_wp2_with fail
  refine hal.mono ?_
  rintro e w1 ⟨rfl, hb1⟩
  clear hal
  by_cases k1 : (300 : Int) < (zs.length : Int)
  · go_wp2_with fail
    go_ret
    exact ⟨rfl, hb1⟩
  by_cases k2 : (20 : Int) < (PS.length : Int)
  · go_wp2_with fail
    go_ret
    exact ⟨rfl, hb1⟩
  by_cases k3 : (60 : Int) < (p.size : Int)
  · go_wp2_with fail
    go_ret
    exact ⟨rfl, hb1⟩
  go_wp2_with fail
  go_loopw [32] (fun iv wr => ∃ k : Nat, k ≤ PS.length ∧ iv = .int .i64 k ∧ Below W.heap.size W wr ∧ Hid (∀ i (hi : i < k) (h2 : i < PS.length), PS[i].2.length ≤ 200)) (fun iv _ => PS.length - (intOf iv).toNat)
  case atStart => exact ⟨0, Nat.zero_le _, rfl, hb1, fun i hi => absurd hi (Nat.not_lt_zero _)⟩
  case round =>
    obtain ⟨k, hk, rfl, hbw, HG⟩ := hrel
    by_cases hkl : k < PS.length
    · obtain ⟨g, o, rfl, hc, hby⟩ := (HP.out.later hbw) k hkl
      have hform : ∃ a c, PS[k].1 = .slice a PS[k].2.length c := by obtain ⟨_, _, a, c, h, _⟩ := hby; exact ⟨a, c, h⟩
      obtain ⟨ak, ck, hv⟩ := hform
      rw [hv] at hc
      obtain ⟨nk, hnk⟩ : ∃ nk, PS[k].2.length = nk := ⟨_, rfl⟩
      rw [hnk] at hc
      have Hnk := Lib.hid hnk
      have Hkl := Lib.hid hkl
      have hb63 : (k : Int) < (PS.length : Int) := by exact_mod_cast hkl
      clear hby hv hnk
      by_cases h200 : (200 : Int) < (nk : Int)
      · clear HG
        go_wp2_with fail
        go_ret
        exact ⟨rfl, hbw⟩
      · have HG2 := Lib.hid (show ∀ i (hi : i < k + 1) (h2 : i < PS.length), PS[i].2.length ≤ 200 from fun i hi h2 => by
          rcases Nat.lt_succ_iff_lt_or_eq.1 hi with h | h
          · exact HG.out i h h2
          · subst h
            rw [Hnk.out]; omega)
        clear HG
        go_wp2_with fail
        go_roundw
        case rel => exact ⟨k + 1, by have := Hkl.out; omega, by go_num, hbw, HG2⟩
        case measure => have := Hkl.out; simp [intOf]; omega
    · have hke : k = PS.length := by omega
      subst hke
      have hb63 : ¬ ((PS.length : Int) < (PS.length : Int)) := Int.lt_irrefl _
      have hall := all_len 200 fun x hx => by
        obtain ⟨i, hi, rfl⟩ := List.getElem_of_mem hx
        exact HG.out i hi hi
      have Hall := Lib.hid (show (allOf PS).length ≤ 1000000 by omega)
      have hun := unpack_any (W0 := (⟨W, []⟩ : Base)) (L := []) ((Own.start W).later hbw) (.slice a0 zs.length c0) zs (HB.out.later hbw) (by omega)
      have hload : ∀ w', Below W.heap.size W w' → Calls Tryz.prog 22 #[.int .i64 100, .slice a1 PS.length c1] w' (LoadedAt W) := fun w' hb => load_any ((Own.start W).later hb) 100 (by decide) HP.out c1 (by unfold maxLen; exact hPn) Hall.out
      have Hload := Lib.hid hload
      clear HG hall hload hbw hb1
      go_wp2_with fail
      refine hun.mono ?_
      rintro e w2 ⟨s, hrun, hs0, v, os, L1, hO2, hos, hops, hlen, ⟨a2, c2, rfl⟩, rfl⟩
      obtain ⟨sl, sz, sb2⟩ := s
      dsimp only at hs0 hos ⊢
      subst hs0
      have hback := (hrun.back Hz.out).2
      dsimp only at hback
      have hbW := hO2.below
      cases sb2 with
      | true =>
        simp only [Bool.true_eq_false, if_false]
        have HBW := Lib.hid hbW
        clear hO2 hops hlen hback hbW hrun hos
        go_wp2_with fail
        go_region
        all_goals go_wp2_with fail
        all_goals (
          refine (Hload.out _ ?_).mono ?_
          first | exact HBW.out | exact HBW.out.drew | exact HBW.out.drew.drew
          rintro e w5 (⟨rfl, hb5⟩ | ⟨t, S5, M5, T5, rfl, hO5, H5⟩)
          · clear Hload
            go_wp2_with fail
            go_ret
            exact ⟨rfl, hb5⟩
          · have hfi := find_any (H5.at_.inWorld hO5) H5.good p Hp.out (Hm.out.later hO5.below)
            have HB5 := Lib.hid hO5.below
            have HG5 := Lib.hid H5
            clear Hload hO5 H5
            cases hf : findT T5 p.data.toList with
            | none =>
              rw [hf] at hfi
              dsimp only [Option.getD_none, Option.isSome_none] at hfi
              clear hf
              go_wp2_with fail
              refine hfi.mono ?_
              rintro e w6 ⟨rfl, hb6⟩
              have HF := Lib.hid (((Own.start W).later HB5.out).later hb6).below
              clear hfi hb6
              go_wp2_with fail
              go_ret
              exact ⟨rfl, HF.out⟩
            | some i =>
              have hi0 : (i != 0) = true := by
                obtain ⟨n, hn⟩ := find_there HG5.out.good hf
                have := (HG5.out.good.low _ (look_mem hn)).1
                simpa using (show i ≠ 0 from fun e => by
                  have h2 : (1 : Int) ≤ i := this
                  omega)
              rw [hf] at hfi
              dsimp only [Option.getD_some, Option.isSome_some] at hfi
              clear hf
              go_wp2_with fail
              refine hfi.mono ?_
              rintro e w6 ⟨rfl, hb6⟩
              have HF := Lib.hid (((Own.start W).later HB5.out).later hb6).below
              clear hfi hb6
              go_wp2_with fail
              go_ret
              exact ⟨rfl, HF.out⟩)
      | false =>
        simp only [if_true]
        obtain ⟨hbk, hok⟩ := hback rfl
        rw [List.append_nil] at hbk
        have hok2 : ∀ x ∈ os, OkB x.2 := fun x hx => hok x.2 (by rw [← hos]; exact List.mem_map.2 ⟨x, hx, rfl⟩)
        obtain ⟨hpi, hpe⟩ := pack_of hO2 rfl hops hok2
        rw [hos, hbk] at hpe
        have hpk := fun w' (h : Own (⟨W, []⟩ : Base) w' (rowO (.slice a2 os.length c2) (os.map (·.1)) :: (L1 ++ []))) => pack_ops h hpi c2 (by rw [List.length_map]; omega)
        simp only [List.length_map, hpe] at hpk
        have hpk1 := hpk w2 hO2
        have hpk2 := hpk w2.drew hO2.drew
        have cvb0 := (HB.out.later hbW).toStr
        have cvb0d := (HB.out.later hbW).drew.toStr
        clear hO2 hops hlen hbW hrun hos hback hok hok2 hpi hpe hbk hpk
        go_wp2_with fail
        first
        | (go_region_with (first
          | (go_at_call 21; (first | refine hpk1.mono ?_ | refine hpk2.mono ?_); rintro e w3 ⟨v3, L3, rfl, hO3⟩; have hb3 := hO3.by Hz.out; have cv3 := hb3.toStr; have cvb := (HB.out.later hO3.below).toStr; have cv3d := hb3.drew.toStr; have cvbd := (HB.out.later hO3.below).drew.toStr; obtain ⟨_, _, a3, c3, rfl, _, _⟩ := hb3; have HBW := Lib.hid hO3.below; clear hO3)))
        | fail
        all_goals go_wp2_with fail
        all_goals (
          refine (Hload.out _ ?_).mono ?_
          first | exact HBW.out | exact HBW.out.drew | exact HBW.out.drew.drew
          rintro e w5 (⟨rfl, hb5⟩ | ⟨t, S5, M5, T5, rfl, hO5, H5⟩)
          · clear Hload
            go_wp2_with fail
            go_ret
            exact ⟨rfl, hb5⟩
          · have hfi := find_any (H5.at_.inWorld hO5) H5.good p Hp.out (Hm.out.later hO5.below)
            have HB5 := Lib.hid hO5.below
            have HG5 := Lib.hid H5
            clear Hload hO5 H5
            cases hf : findT T5 p.data.toList with
            | none =>
              rw [hf] at hfi
              dsimp only [Option.getD_none, Option.isSome_none] at hfi
              clear hf
              go_wp2_with fail
              refine hfi.mono ?_
              rintro e w6 ⟨rfl, hb6⟩
              have HF := Lib.hid (((Own.start W).later HB5.out).later hb6).below
              clear hfi hb6
              go_wp2_with fail
              go_ret
              exact ⟨rfl, HF.out⟩
            | some i =>
              have hi0 : (i != 0) = true := by
                obtain ⟨n, hn⟩ := find_there HG5.out.good hf
                have := (HG5.out.good.low _ (look_mem hn)).1
                simpa using (show i ≠ 0 from fun e => by
                  have h2 : (1 : Int) ≤ i := this
                  omega)
              rw [hf] at hfi
              dsimp only [Option.getD_some, Option.isSome_some] at hfi
              clear hf
              go_wp2_with fail
              refine hfi.mono ?_
              rintro e w6 ⟨rfl, hb6⟩
              have HF := Lib.hid (((Own.start W).later HB5.out).later hb6).below
              clear hfi hb6
              go_wp2_with fail
              go_ret
              exact ⟨rfl, HF.out⟩)
end Go.Proofs.YtdjoahhcmkedhaaGreatDoor
end
