/- Texts one behind the other, each in a section of its own: what calls make of memory, step by step. -/
import Derived.Test.YtkhnkidggcjfeaaGreatDoorPackNeedHits11
import Derived.Shelf.SlIter.Nil
import Derived.Shelf.SortM.Plain
import Derived.Shelf.SortM.SortNone
import Derived.Ground.GgzProg
import Derived.Ground.SlgmProg
import Derived.Test.YtkhnkidggcjfeaaGreatDoorProg
import Derived.Lib.SliceRun
import Derived.Shelf.SlIterI.Nil
import Derived.Deep.RegionHeld3
set_option linter.unusedVariables false
set_option linter.unusedSimpArgs false
set_option maxRecDepth 100000
section
namespace Go.Proofs
open Go.Shelf
def Tryz.keys85_ren : Go.Shelf.Ren := ⟨fun | 7 => 85 | 10 => 135 | n => n, fun | 23 => 115 | 26 => 9 | 3 => 63 | 28 => 172 | 0 => 0 | 27 => 171 | 33 => 89 | 4 => 4 | n => n, fun | n => n⟩
theorem Tryz.keys85 : Go.Proofs.SlLaysZ.n7 Tryz.prog Tryz.keys85_ren := {
  mixed := by kernel_rfl
  f7 := ⟨Tryz.f85.name, by decide, Tryz.func85.trans (congrArg some (by kernel_rfl))⟩
  f10 := ⟨Tryz.f135.name, by decide, Tryz.func135.trans (congrArg some (by kernel_rfl))⟩
  t0 := Tryz.underlying0
  a0 := Tryz.isAgg0
  z0 := Tryz.sizeOf0
  v0 := Tryz.zeroValue0
  t4 := Tryz.underlying4
  a4 := Tryz.isAgg4
  z4 := Tryz.sizeOf4
  v4 := Tryz.zeroValue4
  t23 := Tryz.underlying115
  a23 := Tryz.isAgg115
  z23 := Tryz.sizeOf115
  v23 := Tryz.zeroValue115
  t26 := Tryz.underlying9
  a26 := Tryz.isAgg9
  z26 := Tryz.sizeOf9
  v26 := Tryz.zeroValue9
  t27 := Tryz.underlying171
  a27 := Tryz.isAgg171
  z27 := Tryz.sizeOf171
  v27 := Tryz.zeroValue171
  t28 := Tryz.underlying172
  a28 := Tryz.isAgg172
  z28 := Tryz.sizeOf172
  v28 := Tryz.zeroValue172
  t33 := Tryz.underlying89
  a33 := Tryz.isAgg89
  z33 := Tryz.sizeOf89
  v33 := Tryz.zeroValue89 }
def Tryz.sorted84_ren : Go.Shelf.Ren := ⟨fun | 6 => 84 | 8 => 134 | 9 => 69 | 11 => 194 | 13 => 111 | 12 => 113 | 23 => 165 | 24 => 166 | 14 => 167 | 15 => 168 | 16 => 169 | 17 => 170 | 18 => 171 | 19 => 172 | 20 => 173 | 21 => 174 | 22 => 175 | 25 => 210 | 26 => 205 | 27 => 206 | 28 => 211 | 29 => 212 | 30 => 213 | 31 => 231 | n => n, fun | 26 => 9 | 28 => 172 | 24 => 32 | 0 => 0 | 3 => 3 | 37 => 195 | 48 => 226 | 50 => 106 | 4 => 4 | 40 => 245 | 39 => 244 | 45 => 96 | 5 => 5 | 9 => 9 | 51 => 283 | 55 => 287 | 57 => 303 | 58 => 304 | 33 => 89 | n => n, fun | n => n⟩
theorem Tryz.sorted84 : Go.Proofs.SlLaysZ.n6 Tryz.prog Tryz.sorted84_ren := {
  mixed := by kernel_rfl
  f6 := ⟨Tryz.f84.name, by decide, Tryz.func84.trans (congrArg some (by kernel_rfl))⟩
  f8 := ⟨Tryz.f134.name, by decide, Tryz.func134.trans (congrArg some (by kernel_rfl))⟩
  f11 := ⟨Tryz.f194.name, by decide, Tryz.func194.trans (congrArg some (by kernel_rfl))⟩
  t0 := Tryz.underlying0
  a0 := Tryz.isAgg0
  z0 := Tryz.sizeOf0
  v0 := Tryz.zeroValue0
  t24 := Tryz.underlying32
  a24 := Tryz.isAgg32
  z24 := Tryz.sizeOf32
  v24 := Tryz.zeroValue32
  t26 := Tryz.underlying9
  a26 := Tryz.isAgg9
  z26 := Tryz.sizeOf9
  v26 := Tryz.zeroValue9
  t28 := Tryz.underlying172
  a28 := Tryz.isAgg172
  z28 := Tryz.sizeOf172
  v28 := Tryz.zeroValue172
  i26 := by kernel_rfl }
def Tryz.sort69_ren : Go.Shelf.Ren := ⟨fun | 6 => 69 | 8 => 111 | 9 => 113 | 19 => 165 | 20 => 166 | 21 => 167 | 22 => 168 | 23 => 169 | 24 => 170 | 25 => 171 | 26 => 172 | 27 => 173 | 28 => 174 | 29 => 175 | 36 => 210 | 31 => 205 | 32 => 206 | 37 => 211 | 38 => 212 | 39 => 213 | 41 => 231 | n => n, fun | 27 => 32 | 29 => 9 | 3 => 3 | 32 => 195 | 26 => 32 | 0 => 0 | 44 => 226 | 46 => 106 | 4 => 4 | 36 => 245 | 35 => 244 | 41 => 96 | 5 => 5 | 9 => 9 | 53 => 283 | 57 => 287 | 63 => 303 | 64 => 304 | n => n, fun | n => n⟩
theorem Tryz.sort69 : Go.Proofs.SlLaysM.n6 Tryz.prog Tryz.sort69_ren := {
  mixed := by kernel_rfl
  f6 := ⟨Tryz.f69.name, by decide, Tryz.func69.trans (congrArg some (by kernel_rfl))⟩
  f8 := Tryz.func111.trans (congrArg some (by kernel_rfl))
  f9 := ⟨Tryz.f113.name, by decide, Tryz.func113.trans (congrArg some (by kernel_rfl))⟩
  f19 := Tryz.func165.trans (congrArg some (by kernel_rfl))
  f20 := Tryz.func166.trans (congrArg some (by kernel_rfl))
  f21 := ⟨Tryz.f167.name, by decide, Tryz.func167.trans (congrArg some (by kernel_rfl))⟩
  f22 := ⟨Tryz.f168.name, by decide, Tryz.func168.trans (congrArg some (by kernel_rfl))⟩
  f23 := ⟨Tryz.f169.name, by decide, Tryz.func169.trans (congrArg some (by kernel_rfl))⟩
  f24 := ⟨Tryz.f170.name, by decide, Tryz.func170.trans (congrArg some (by kernel_rfl))⟩
  f25 := ⟨Tryz.f171.name, by decide, Tryz.func171.trans (congrArg some (by kernel_rfl))⟩
  f26 := ⟨Tryz.f172.name, by decide, Tryz.func172.trans (congrArg some (by kernel_rfl))⟩
  f27 := ⟨Tryz.f173.name, by decide, Tryz.func173.trans (congrArg some (by kernel_rfl))⟩
  f28 := ⟨Tryz.f174.name, by decide, Tryz.func174.trans (congrArg some (by kernel_rfl))⟩
  f29 := ⟨Tryz.f175.name, by decide, Tryz.func175.trans (congrArg some (by kernel_rfl))⟩
  f31 := Tryz.func205.trans (congrArg some (by kernel_rfl))
  f32 := Tryz.func206.trans (congrArg some (by kernel_rfl))
  f36 := ⟨Tryz.f210.name, by decide, Tryz.func210.trans (congrArg some (by kernel_rfl))⟩
  f37 := ⟨Tryz.f211.name, by decide, Tryz.func211.trans (congrArg some (by kernel_rfl))⟩
  f38 := ⟨Tryz.f212.name, by decide, Tryz.func212.trans (congrArg some (by kernel_rfl))⟩
  f39 := ⟨Tryz.f213.name, by decide, Tryz.func213.trans (congrArg some (by kernel_rfl))⟩
  f41 := ⟨Tryz.f231.name, by decide, Tryz.func231.trans (congrArg some (by kernel_rfl))⟩
  t0 := Tryz.underlying0
  a0 := Tryz.isAgg0
  z0 := Tryz.sizeOf0
  v0 := Tryz.zeroValue0
  t3 := Tryz.underlying3
  a3 := Tryz.isAgg3
  z3 := Tryz.sizeOf3
  v3 := Tryz.zeroValue3
  t4 := Tryz.underlying4
  a4 := Tryz.isAgg4
  z4 := Tryz.sizeOf4
  v4 := Tryz.zeroValue4
  t5 := Tryz.underlying5
  a5 := Tryz.isAgg5
  z5 := Tryz.sizeOf5
  v5 := Tryz.zeroValue5
  t9 := Tryz.underlying9
  a9 := Tryz.isAgg9
  z9 := Tryz.sizeOf9
  v9 := Tryz.zeroValue9
  t26 := Tryz.underlying32
  a26 := Tryz.isAgg32
  z26 := Tryz.sizeOf32
  v26 := Tryz.zeroValue32
  t27 := Tryz.underlying32
  a27 := Tryz.isAgg32
  z27 := Tryz.sizeOf32
  v27 := Tryz.zeroValue32
  t29 := Tryz.underlying9
  a29 := Tryz.isAgg9
  z29 := Tryz.sizeOf9
  v29 := Tryz.zeroValue9
  t32 := Tryz.underlying195
  a32 := Tryz.isAgg195
  z32 := Tryz.sizeOf195
  v32 := Tryz.zeroValue195
  t35 := Tryz.underlying244
  a35 := Tryz.isAgg244
  z35 := Tryz.sizeOf244
  v35 := Tryz.zeroValue244
  t36 := Tryz.underlying245
  a36 := Tryz.isAgg245
  z36 := Tryz.sizeOf245
  v36 := Tryz.zeroValue245
  t41 := Tryz.underlying96
  a41 := Tryz.isAgg96
  z41 := Tryz.sizeOf96
  v41 := Tryz.zeroValue96
  t44 := Tryz.underlying226
  a44 := Tryz.isAgg226
  z44 := Tryz.sizeOf226
  v44 := Tryz.zeroValue226
  t46 := Tryz.underlying106
  a46 := Tryz.isAgg106
  z46 := Tryz.sizeOf106
  v46 := Tryz.zeroValue106
  t53 := Tryz.underlying283
  a53 := Tryz.isAgg283
  z53 := Tryz.sizeOf283
  v53 := Tryz.zeroValue283
  t57 := Tryz.underlying287
  a57 := Tryz.isAgg287
  z57 := Tryz.sizeOf287
  v57 := Tryz.zeroValue287
  t63 := Tryz.underlying303
  a63 := Tryz.isAgg303
  z63 := Tryz.sizeOf303
  v63 := Tryz.zeroValue303
  t64 := Tryz.underlying304
  a64 := Tryz.isAgg304
  z64 := Tryz.sizeOf304
  v64 := Tryz.zeroValue304 }
def Tryz.keys202_ren : Go.Shelf.Ren := ⟨fun | 7 => 202 | 10 => 229 | n => n, fun | 23 => 29 | 26 => 9 | 3 => 3 | 28 => 172 | 0 => 0 | 27 => 171 | 33 => 89 | 4 => 4 | n => n, fun | n => n⟩
open Go.RowKit Go.Maps Go.Sort Go.Shelf
theorem Tryz.sorts84 (m : Nat) : AnyZ.SortsIn Tryz.prog Tryz.sorted84_ren Fence.wide m :=
  ⟨fun blk off cap ss W hH hblk hsz => callsIn_wide.2 (AnyM.slices_Sort_string Tryz.sort69 blk off cap ss W hH hblk hsz),
   fun p cap W => callsIn_wide.2 (AnyM.slices_Sort_string_none Tryz.sort69 p cap W)⟩
theorem Tryz.maps_Keys_85 (mb : Option Nat) (W : World) : CallsIn Fence.wide 5 Tryz.prog 85 #[.map mb] W fun e w' => e = .returned (.func (.func 135) #[] #[.pointer (some ⟨W.heap.size, 0, none⟩)]) ∧ w' = W.alloc (.cells #[.map mb] 115) :=
  AnyZ.keys_in Tryz.keys85 Fence.wide 5 trivial rfl mb W
set_option maxHeartbeats 1000000 in
theorem Tryz.slices_Sorted_keys_84_85 {H : Type} (b nn : Nat) (D0 : DataW H) (R : Value → Option (DataW H × List MemPlace)) (w : World) (hown : w.ownsMap Tryz.prog 9 R b nn D0) (hmax : Maps.size D0 ≤ maxLen) (hbytes : Maps.size D0 * 16 ≤ 140737488355328) :
    CallsIn Fence.wide 5 Tryz.prog 84 #[.func (.func 135) #[] #[.pointer (some ⟨w.heap.size, 0, none⟩)]] (w.alloc (.cells #[.map (some b)] 115)) fun e w' => ∃ (v : Value) (ss : List (List UInt8)), e = .returned v ∧ ss.Perm (strKeys D0) ∧
      w'.ownsRow (w.alloc (.cells #[.map (some b)] 115)).heap.size 9 1 v ss.length ((ss.mergeSort (fun x y => decide (x ≤ y))).map encStr) ∧ (v = .slice none 0 0 ↔ ss = []) ∧ Below (w.alloc (.cells #[.map (some b)] 115)).heap.size (w.alloc (.cells #[.map (some b)] 115)) w' := by
  have hbl := hown.lt
  have hseq : SeqGives Fence.wide 2 Tryz.prog 135 #[.pointer (some ⟨w.heap.size, 0, none⟩)] encStr (fun ss => ss.Perm (strKeys D0)) (Maps.size D0) (w.alloc (.cells #[.map (some b)] 115)) :=
    AnyZ.keys_gives (ρ := Tryz.keys85_ren) { Tryz.keys85 with } Fence.wide _ trivial rfl (by omega) w.heap.size b nn D0 _ (by simp) (by simp) (by
      obtain ⟨es, clock, hb, Ft, hs, hD⟩ := hown
      exact ⟨es, clock, (Below.heap_alloc _ _ b hbl).trans hb, Ft, hs, hD⟩)
  exact AnyZ.sorted_in Tryz.sorted84 Fence.wide 5 trivial trivial trivial trivial rfl (by omega) (Tryz.sorts84 _) (enters_of Tryz.func69 (by kernel_rfl) rfl) 135 #[.pointer (some ⟨w.heap.size, 0, none⟩)] trivial (enters_of Tryz.func135 (by kernel_rfl) rfl) _ _ hmax hbytes _ hseq
end Go.Proofs
end
section
namespace Go.Proofs.YtkhnkidggcjfeaaGreatDoor
open Go.RowKit Go.Maps
open Go.ChangeMaps (setBlock)
open Go.WideElems (Fit rd rg)
abbrev noR : Value → Option (DataW Unit × List MemPlace) := fun _ => some (.nil, [])
def sOf (v : Value) : List UInt8 := match v with
  | .string s => s.data.toList
  | _ => []
end Go.Proofs.YtkhnkidggcjfeaaGreatDoor
end
section
namespace Go.Proofs.YtkhnkidggcjfeaaGreatDoor
open Go.RowKit Go.Maps Go.Shelf
open Go.ChangeMaps (setBlock)
end Go.Proofs.YtkhnkidggcjfeaaGreatDoor
end
section
namespace Go.Proofs.YtkhnkidggcjfeaaGreatDoor
open Go.RowKit
open Go.ChangeMaps (setBlock)
def Live (w0 : World) (L : List Rw) (t : Nat) (E : Et) (w : World) : Prop := ∃ S L' T, Own ⟨w0, S⟩ w L' ∧ (∀ x ∈ L, x ∈ L') ∧ Tree S (Pc L') t T ∧ Rep T E
end Go.Proofs.YtkhnkidggcjfeaaGreatDoor
end
section
namespace Go.Proofs.YtkhnkidggcjfeaaGreatDoor
open Go.RowKit
open Go.ChangeMaps (setBlock)
def standE (E : Et) (l : List UInt8) : Option ENd := (if okP l then walkE E 1 (namesL l) else none).bind fun i => look E.nodes i
def looseE (l : List (Int × ENd)) : List Int := (l.filter fun p => !p.2.dir && (p.2.places == 0)).map (·.1)
theorem looseL_er (l : List (Int × Nd)) : looseL l = looseE (erL l) := by
  unfold looseL looseE erL
  induction l with
  | nil => rfl
  | cons p r ih =>
    simp only [List.map_cons, List.filter_cons]
    have e : p.2.loose = (!p.2.er.dir && (p.2.er.places == 0)) := rfl
    rw [e]
    split
    · simp only [List.map_cons]; rw [ih]
    · exact ih
end Go.Proofs.YtkhnkidggcjfeaaGreatDoor
end
section
namespace Go.Proofs.YtkhnkidggcjfeaaGreatDoor
open Go.RowKit
open Go.ChangeMaps (setBlock)
section
variable {w0 w w' : World} {S S' : Blocks} {R L L' M : List Rw} {v c n : Nat} {X X' : VX} {T T' Tc : Tr} {K : Blocks} {sv : Value} {zs : List Int}
theorem ask_any (h : VolIn w0 S R L v X T w) (bx : Nat) (hb : w.cell? ⟨bx, 0, none⟩ = some (.pointer (some ⟨v, 0, none⟩))) (i : Int) :
    Calls Tryz.prog 34 #[.int .i64 i, .pointer (some ⟨bx, 0, none⟩)] w fun e w' => e = .returned (.bool (decide (0 < heldN X.held i))) ∧ w = w' := by
  have hh := held_any h i
  clear h
  generalize heldN X.held i = m at *
  go_enter Tryz.func34, Tryz.ntmps34
  go_wp2_with fail
  refine hh.mono ?_
  rintro e w' ⟨rfl, rfl⟩
  go_wp2_with fail
  go_ret
  exact ⟨rfl, rfl⟩
end
end Go.Proofs.YtkhnkidggcjfeaaGreatDoor
end
section
namespace Go.Proofs.YtkhnkidggcjfeaaGreatDoor
open Go.RowKit
open Go.ChangeMaps (setBlock)
section
variable {w0 w w' : World} {S S' S1 : Blocks} {R L L' L1 M : List Rw} {v c n : Nat} {X X' X1 X2 : VX} {T T' Tc T1 : Tr} {K : Blocks} {sv : Value} {zs : List Int}
theorem VolTo.comp {m : Nat} (hL : ∀ x ∈ L, x ∈ L1) (hS : ∀ b x, (b, x) ∈ S → b ∉ v :: X.hm :: X.t :: T.foot → (b, x) ∈ S1) (hF : ∀ b ∈ X.t :: T1.foot, b ∈ X.t :: T.foot ∨ n ≤ b) (ht : X1.t = X.t) (hh : X1.hm = X.hm) (hlt : ∀ b x, (b, x) ∈ S → b < n) (hnm : n ≤ m) (k : VolTo w0 S1 L1 v X1 T1 m X2 w') : VolTo w0 S L v X T n X2 w' := by
  obtain ⟨S2, R2, L2, T2, g1, g2, g3, g4, g5, g6⟩ := k
  refine ⟨S2, R2, L2, T2, g1, fun x hx => g2 x (hL x hx), fun b x hx hb => g3 b x (hS b x hx hb) ?_, fun b hb => ?_, g5.trans ht, g6.trans hh⟩
  · intro hm
    rw [ht, hh] at hm
    rcases List.mem_cons.1 hm with rfl | hm
    · exact hb (List.mem_cons_self ..)
    · rcases List.mem_cons.1 hm with rfl | hm
      · exact hb (List.mem_cons_of_mem _ (List.mem_cons_self ..))
      · rcases hF b hm with h7 | h7
        · exact hb (List.mem_cons_of_mem _ (List.mem_cons_of_mem _ h7))
        · have := hlt b x hx; omega
  · rw [ht] at g4
    rcases g4 b hb with h7 | h7
    · exact hF b h7
    · exact .inr (by omega)
theorem VolIn.takes (h : VolIn w0 S R L v X T w) (hc : Tree S (Pc L) c Tc) {E' : Et} {B' : Nat} (hr : Rep Tc E') (hi : Inv E' B') (hd : ∀ b ∈ v :: X.hm :: X.t :: T.foot, b ∉ c :: Tc.foot) :
    VolIn w0 (upd S X.t (.cells (treeCells Tc) 82)) R L v { X with E := E', B := B' } Tc (((w.setCell ⟨X.t, 0, none⟩ (.int .i64 Tc.quota)).setCell ⟨X.t, 1, none⟩ (.int .i64 Tc.next)).setCell ⟨X.t, 2, none⟩ (.map (some Tc.bm))) := by
  have htv : v ≠ X.t := fun e => h.off.1 (e ▸ List.mem_cons_self ..)
  have hth : X.hm ≠ X.t := fun e => h.off.2.1 (e ▸ List.mem_cons_self ..)
  have mt : X.t ∈ v :: X.hm :: X.t :: T.foot := List.mem_cons_of_mem _ (List.mem_cons_of_mem _ (List.mem_cons_self ..))
  have htc : X.t ∉ Tc.foot := fun hm => hd _ mt (List.mem_cons_of_mem _ hm)
  have hin : ∀ b, b ∈ v :: X.hm :: X.t :: T.foot → b ≠ X.t → b ∉ X.t :: Tc.foot := fun b hb hne hm => by
    rcases List.mem_cons.1 hm with e | hm
    · exact hne e
    · exact hd b hb (List.mem_cons_of_mem _ hm)
  obtain ⟨o, h1, h2⟩ := h.map
  exact ⟨store3 h.own h.tree.at_.cells, h.log, hc.moved h.tree.at_.cells htc, hr, hi, upd_other h.cells htv _, ⟨o, upd_other h1 hth _, h2⟩, ⟨hin _ (List.mem_cons_self ..) htv, hin _ (List.mem_cons_of_mem _ (List.mem_cons_self ..)) hth, h.off.2.2⟩, h.live, h.left⟩
theorem VolIn.loose (h : VolIn w0 S R L v X T w) (hB : X.B ≤ 1000000) : Calls Tryz.prog 33 #[.pointer (some ⟨X.t, 0, none⟩)] w fun e w' => ∃ (sv : Value) (zs : List Int), e = .returned sv ∧ zs.Perm (looseE X.E.nodes) ∧ Own ⟨w0, S⟩ w' (rowI sv zs :: (R ++ L)) ∧ VolIn w0 S R L v X T w' := by
  have hlen := h.inv.len
  refine (loose_t h.treeW (by rw [h.rep.count]; omega)).mono fun e w' hd => ?_
  obtain ⟨sv, zs, e1, e2, e3⟩ := hd
  refine ⟨sv, zs.mergeSort fun x y => decide (x ≤ y), e1, (List.mergeSort_perm zs _).trans (e2.trans ?_), h.own.join e3, h.later e3.below⟩
  rw [looseL_er]
  unfold looseE
  exact (h.rep.nodes.filter _).map _
abbrev doneX (X : VX) (ops : List OpD) (xs : List OpE) (D' : Dk) : VX :=
  { X with E := (DoE X.E xs).2, B := X.B + xs.length, D := D', used := X.used + roomM (recO (pks ops xs)).length, recs := X.recs ++ [recO (pks ops xs)], st := X.st + 100 }
end
end Go.Proofs.YtkhnkidggcjfeaaGreatDoor
end
section
namespace Go.Proofs.YtkhnkidggcjfeaaGreatDoor
open Go.RowKit
open Go.ChangeMaps (setBlock)
theorem inv_newE (q : Int) : Inv (E0 q) 0 := by
  have hl : ∀ i n, look (E0 q).nodes i = some n → i = 1 ∧ n = ⟨true, [], [], 0⟩ := fun i n h => by
    have := look_mem h
    have h2 : (i, n) = (1, ⟨true, [], [], 0⟩) := by simpa [E0] using this
    injection h2 with h3 h4
    exact ⟨h3, h4⟩
  refine ⟨by show ([1] : List Int).Nodup; simp, ⟨⟨true, [], [], 0⟩, rfl, rfl⟩, fun i n h q' hq => ?_, fun i n h => ?_, fun i n h hd => ?_, fun i n h hd hi => ?_, rfl, fun i n h => ?_, fun i n h => ?_, Nat.le_refl _, by show (2 : Int) ≤ 0 + 2; decide, Nat.zero_le _, Nat.le_refl _⟩
  · obtain ⟨rfl, rfl⟩ := hl i n h; cases hq
  · obtain ⟨rfl, rfl⟩ := hl i n h; exact List.nodup_nil
  · obtain ⟨rfl, rfl⟩ := hl i n h; cases hd
  · obtain ⟨rfl, rfl⟩ := hl i n h; exact absurd rfl hi
  · obtain ⟨rfl, rfl⟩ := hl i n h; exact ⟨Int.le_refl _, by show (1 : Int) < 2; decide⟩
  · obtain ⟨rfl, rfl⟩ := hl i n h; exact Nat.zero_le _
section
variable {w0 w w' : World} {S S' S1 : Blocks} {R L L' L1 M : List Rw} {v c n d : Nat} {X X' X1 X2 : VX} {T T' Tc T1 : Tr} {K : Blocks} {sv : Value} {zs : List Int}
def MadeAt (w0 : World) (S : Blocks) (L : List Rw) (D : Value → List Int → Prop) (w : World) (q : Int) (e : Ending) (w' : World) : Prop :=
  ∃ S', e = .returned (.tuple #[.pointer (some ⟨w.heap.size + 3, 0, none⟩), .bool true]) ∧ Own ⟨w0, S'⟩ w' L ∧ Tree S' D (w.heap.size + 3) (newT w.heap.size q) ∧ (∀ b o, (b, o) ∈ S → (b, o) ∈ S')
theorem made_nil {D : Value → List Int → Prop} (hO : Own ⟨w0, S⟩ w L) (hD : D (.slice none 0 0) []) (q : Int) (hq : (Lit.int .i64 q).wf = true) (a : Option Addr) (cp : Nat) (ha : (a = none ∧ cp = 0) ∨ ∃ g, a = some ⟨g, 0, none⟩) (hcp : cp ≤ maxLen) :
    Calls Tryz.prog 44 #[.int .i64 q, .slice a 0 cp] w (MadeAt w0 S L D w q) := by
  have hnew := tnew_any hO hD q hq
  unfold maxLen at hcp
  rcases ha with ⟨rfl, rfl⟩ | ⟨g, rfl⟩
  · clear hO hq
    go_enter Tryz.func44, Tryz.ntmps44
    go_wp2_with fail
    go_loop [6, 17] (fun r i => r = .slice none 0 0 ∧ i = .int .i64 0) (fun _ _ => 0)
    case atStart => exact ⟨rfl, rfl⟩
    case round =>
      obtain ⟨rfl, rfl⟩ := hrel
      go_wp2_with fail
      refine hnew.mono ?_
      rintro e w1 ⟨S', rfl, h1, h2, h3⟩
      have HP := Lib.hid (show MadeAt w0 S L D w q (.returned (.tuple #[.pointer (some ⟨w.heap.size + 3, 0, none⟩), .bool true])) w1 from ⟨S', rfl, h1, h2, h3⟩)
      clear hnew h1 h2 h3
      go_wp2_with fail
      go_loop [12, 50] (fun r i => r = .bool true ∧ i = .int .i64 0) (fun _ _ => 0)
      case atStart => exact ⟨rfl, rfl⟩
      case round =>
        obtain ⟨rfl, rfl⟩ := hrel
        go_wp2_with fail
        go_ret2
        exact HP.out
  · by_cases hc0 : cp = 0
    · subst hc0
      clear hO hq
      go_enter Tryz.func44, Tryz.ntmps44
      go_wp2_with fail
      go_loop [6, 17] (fun r i => r = .slice none 0 0 ∧ i = .int .i64 0) (fun _ _ => 0)
      case atStart => exact ⟨rfl, rfl⟩
      case round =>
        obtain ⟨rfl, rfl⟩ := hrel
        go_wp2_with fail
        refine hnew.mono ?_
        rintro e w1 ⟨S', rfl, h1, h2, h3⟩
        have HP := Lib.hid (show MadeAt w0 S L D w q (.returned (.tuple #[.pointer (some ⟨w.heap.size + 3, 0, none⟩), .bool true])) w1 from ⟨S', rfl, h1, h2, h3⟩)
        clear hnew h1 h2 h3
        go_wp2_with fail
        go_loop [12, 50] (fun r i => r = .bool true ∧ i = .int .i64 0) (fun _ _ => 0)
        case atStart => exact ⟨rfl, rfl⟩
        case round =>
          obtain ⟨rfl, rfl⟩ := hrel
          go_wp2_with fail
          go_ret2
          exact HP.out
    · clear hO hq
      go_enter Tryz.func44, Tryz.ntmps44
      go_wp2_with fail
      go_loop [6, 17] (fun r i => r = .slice none 0 0 ∧ i = .int .i64 0) (fun _ _ => 0)
      case atStart => exact ⟨rfl, rfl⟩
      case round =>
        obtain ⟨rfl, rfl⟩ := hrel
        go_wp2_with fail
        refine hnew.mono ?_
        rintro e w1 ⟨S', rfl, h1, h2, h3⟩
        have HP := Lib.hid (show MadeAt w0 S L D w q (.returned (.tuple #[.pointer (some ⟨w.heap.size + 3, 0, none⟩), .bool true])) w1 from ⟨S', rfl, h1, h2, h3⟩)
        clear hnew h1 h2 h3
        go_wp2_with fail
        go_loop [12, 50] (fun r i => r = .bool true ∧ i = .int .i64 0) (fun _ _ => 0)
        case atStart => exact ⟨rfl, rfl⟩
        case round =>
          obtain ⟨rfl, rfl⟩ := hrel
          go_wp2_with fail
          go_ret2
          exact HP.out
def newX (t d l hm : Nat) (q : Int) (D : Dk) (n : Nat) : VX := ⟨t, d, l, hm, E0 (max q 0), 0, [], D, n, (n - 2) / 2, 0, 0, 3, []⟩
theorem vopen_new (hA : DkAt ⟨w0, S⟩ w d (newM n) L) (h6 : 6 ≤ n) (hm : n ≤ 4096) (q : Int) (hq : (Lit.int .i64 q).wf = true) :
    Calls Tryz.prog 15 #[.pointer (some ⟨d, 0, none⟩), .int .i64 q] w fun e w' => ∃ v t l hm D S' R T, e = .returned (.tuple #[.pointer (some ⟨v, 0, none⟩), .int .i64 0]) ∧ VolIn w0 S' R L v (newX t d l hm q D n) T w' ∧ (∀ b x, (b, x) ∈ S → (b, x) ∈ S') ∧ (∀ b ∈ v :: hm :: t :: T.foot, ∀ x, (b, x) ∉ S) := by
  have hop := open_new hA h6 hm
  have hmk : ∀ w, (Instr.makeMap 52 none).run Tryz.prog w = .ok (.map (some w.heap.size)) (w.alloc (.map #[] 0)) := fun w => rfl
  clear hA
  go_enter Tryz.func15, Tryz.ntmps15
  go_wp2_with fail
  refine hop.mono ?_
  rintro e w1 ⟨l, D, rfl, hl, hv, hz⟩
  have hls := logs_any hl (fun b hb => by cases hb) (by simp)
  have Hl := Lib.hid hl
  have Hv := Lib.hid hv
  have Hz := Lib.hid hz
  clear hop hl hv hz
  go_wp2_with fail
  refine hls.mono ?_
  rintro e w2 ⟨lv, vs, M, rfl, hO2, hL2⟩
  have hvs : vs = [] := List.eq_nil_of_length_eq_zero hL2.1
  subst hvs
  have hrow := hO2.head.2
  have hl2 := Hl.out.later hO2.below
  have hsm : ∃ a cp, lv = .slice a 0 cp ∧ ((a = none ∧ cp = 0) ∨ ∃ g, a = some ⟨g, 0, none⟩) ∧ cp ≤ maxLen := by
    rcases hrow with ⟨h1, _⟩ | ⟨g, cp, cur, h1, _, _, _, h2, _⟩
    · exact ⟨none, 0, h1, .inl ⟨rfl, rfl⟩, Nat.zero_le _⟩
    · exact ⟨_, cp, h1, .inr ⟨g, rfl⟩, h2⟩
  obtain ⟨a, cp, rfl, ha, hcp⟩ := hsm
  obtain ⟨R, hO3, hlog⟩ := hl2.openB
  have hmd := made_nil (D := Pc L) hO3 (Pc.nil L) q hq a cp ha hcp
  have Hlog := Lib.hid hlog
  have HO3 := Lib.hid hO3
  clear hls hO2 hL2 hrow hl2 ha hcp hO3 hlog
  go_wp2_with fail
  refine hmd.mono ?_
  rintro e w3 ⟨S3, rfl, hO4, hT4, hS4⟩
  have hO5 := (hO4.newB (.map #[] 0)).newB (.cells #[.pointer (some ⟨w2.heap.size + 3, 0, none⟩), .pointer (some ⟨d, 0, none⟩), .pointer (some ⟨l, 0, none⟩), .map (some w3.heap.size), .bool false] 54)
  rw [show (w3.alloc (.map #[] 0)).heap.size = w3.heap.size + 1 by simp] at hO5
  have hlow : ∀ b ∈ (w2.heap.size + 3) :: (newT w2.heap.size q).foot, b < w3.heap.size := fun b hb => by
    obtain ⟨x, hx⟩ := kept_in hT4.at_ b hb
    exact (hO4.atLt hx).2
  have hge : ∀ b ∈ (w2.heap.size + 3) :: (newT w2.heap.size q).foot, w2.heap.size ≤ b := fun b hb => by
    have hb2 : b ∈ ([w2.heap.size + 3, w2.heap.size, w2.heap.size + 1 + 1, w2.heap.size + 1] : List Nat) := hb
    simp at hb2
    omega
  have h23 := hlow _ (List.mem_cons_self ..)
  have HP := Lib.hid (show VolIn w0 ((w3.heap.size + 1, .cells #[.pointer (some ⟨w2.heap.size + 3, 0, none⟩), .pointer (some ⟨d, 0, none⟩), .pointer (some ⟨l, 0, none⟩), .map (some w3.heap.size), .bool false] 54) :: (w3.heap.size, .map #[] 0) :: S3) R L (w3.heap.size + 1) (newX (w2.heap.size + 3) d l w3.heap.size q D n) (newT w2.heap.size q) ((w3.alloc (.map #[] 0)).alloc (.cells #[.pointer (some ⟨w2.heap.size + 3, 0, none⟩), .pointer (some ⟨d, 0, none⟩), .pointer (some ⟨l, 0, none⟩), .map (some w3.heap.size), .bool false] 54)) from
    ⟨hO5, Hlog.out, hT4.mono (fun b x _ hx => List.mem_cons_of_mem _ (List.mem_cons_of_mem _ hx)) (fun _ _ hh => hh), new_rep _ q, inv_newE _, List.mem_cons_self .., ⟨_, List.mem_cons_of_mem _ (List.mem_cons_self ..), MapO.empty KI⟩,
      ⟨fun hm => by have := hlow (w3.heap.size + 1) hm; omega, fun hm => by have := hlow w3.heap.size hm; omega, by show w3.heap.size + 1 ≠ w3.heap.size; omega⟩, Hv.out, Hz.out⟩)
  have HS := Lib.hid (fun b x (hx : (b, x) ∈ S) => List.mem_cons_of_mem (w3.heap.size + 1, Obj.cells #[.pointer (some ⟨w2.heap.size + 3, 0, none⟩), .pointer (some ⟨d, 0, none⟩), .pointer (some ⟨l, 0, none⟩), .map (some w3.heap.size), .bool false] 54) (List.mem_cons_of_mem (w3.heap.size, Obj.map #[] 0) (hS4 b x hx)))
  have HF := Lib.hid (fun b (hb : b ∈ (w3.heap.size + 1) :: w3.heap.size :: (w2.heap.size + 3) :: (newT w2.heap.size q).foot) x (hx : (b, x) ∈ S) => (show False from by
    have h1 := (HO3.out.atLt hx).2
    rcases List.mem_cons.1 hb with e | hb
    · omega
    · rcases List.mem_cons.1 hb with e | hb
      · omega
      · have := hge b hb; omega))
  clear hO4 hT4 hS4 hO5 hlow hge hmd Hl Hv Hz HO3 Hlog
  go_wp2_with fail
  go_ret2
  exact ⟨_, _, _, _, _, _, _, _, rfl, HP.out, HS.out, HF.out⟩
end
end Go.Proofs.YtkhnkidggcjfeaaGreatDoor
end
section
namespace Go.Proofs.YtkhnkidggcjfeaaGreatDoor
open Go.RowKit
open Go.ChangeMaps (setBlock)
section
variable {w0 w w' : World} {S S' S1 : Blocks} {R L L' L1 M : List Rw} {v c n d : Nat} {X X' X1 X2 : VX} {T T' Tc T1 : Tr} {K : Blocks} {sv : Value} {zs : List Int}
theorem VolIn.less (h : VolIn w0 S R L v X T w) (i : Int) : ∃ o', (Builtin.delete_ #[52, 3] 0 #[.map (some X.hm), .int .i64 i]).run Tryz.prog w = .ok (.tuple #[]) (setBlock w X.hm o') ∧ VolIn w0 (upd S X.hm o') R L v { X with held := del X.held i } T (setBlock w X.hm o') := by
  obtain ⟨o, h1, h2⟩ := h.map
  obtain ⟨o', h3, h4⟩ := h2.delete (w := w) kindsI Tryz.underlying52 (h.own.at h1) i 0
  have e : del (heldV X.held) i = heldV (del X.held i) := (del_map (fun x : Int => Value.int .i64 x) X.held i).symm
  rw [e] at h4
  exact ⟨o', h3, h.held' h1 h4⟩
set_option maxHeartbeats 4000000 in
theorem let_last (h : VolIn w0 S R L v X T w) (i : Int) (hz : heldN X.held i = 1) :
    Calls Tryz.prog 268 #[.pointer (some ⟨v, 0, none⟩), .int .i64 i] w fun e w' => e = .returned (.int .i64 0) ∧ VolTo w0 S L v X T w.heap.size { X with held := del X.held i, E := reapE X.E [i] } w' := by
  obtain ⟨⟨c0, c1, c2, c3, c4⟩, f4⟩ := h.atV
  have hl := h.heldAt i
  rw [hz] at hl
  obtain ⟨o', hdel, h2⟩ := h.less i
  have hlt : ∀ b x, (b, x) ∈ S → b < w.heap.size := fun b x hb => (h.own.atLt hb).2
  have hmm : X.hm < w.heap.size := (h.lt (List.mem_cons_of_mem _ (List.mem_cons_self ..))).2
  have hsz : (setBlock w X.hm o').heap.size = w.heap.size := (setBlock_heap w X.hm o' hmm).2.2
  have k1 : VolTo w0 S L v X T w.heap.size { X with held := del X.held i } (setBlock w X.hm o') := upd_to h2 rfl rfl
  obtain ⟨w2, hw2⟩ : ∃ w2, w2 = setBlock w X.hm o' := ⟨_, rfl⟩
  rw [← hw2] at hdel h2 hsz k1
  have c0' : w2.cell? ⟨v, 0, none⟩ = some (.pointer (some ⟨X.t, 0, none⟩)) := h2.atV.1.1
  have h3 : VolIn w0 ((w2.heap.size, .cells #[.int .i64 i] 3) :: upd S X.hm o') R L v { X with held := del X.held i } T (w2.alloc (.cells #[.int .i64 i] 3)) := h2.base (h2.own.newB _) (fun b x hx _ => List.mem_cons_of_mem _ hx)
  have hrp := h3.turn (f := 31) (args := #[.pointer (some ⟨X.t, 0, none⟩), .slice (some ⟨w2.heap.size, 0, none⟩) 1 1]) (r := .tuple #[]) (E' := reapE X.E [i]) (B' := X.B) (reapE_inv [i] h3.inv) fun S1 hS1 k1 k2 => reap_any k1 k2 h3.rep h3.inv (some ⟨w2.heap.size, 0, none⟩) [i] 1 (by simp) (fun w' S' k3 k4 j hj => by
    have hj0 : j = 0 := by simpa using hj
    subst hj0
    refine ⟨w2.heap.size, 0, rfl, ?_⟩
    have hin := k4 _ _ (hS1 _ _ (List.mem_cons_self ..)) (fun hm => by
      have h5 := (h2.lt (List.mem_cons_of_mem _ (List.mem_cons_of_mem _ hm))).2
      omega)
    rw [k3.cellB hin]; rfl)
  have HK := Lib.hid (fun w9 (k : VolTo w0 ((w2.heap.size, .cells #[.int .i64 i] 3) :: upd S X.hm o') L v { X with held := del X.held i } T (w2.alloc (.cells #[.int .i64 i] 3)).heap.size { X with held := del X.held i, E := reapE X.E [i] } w9) =>
    (show VolTo w0 S L v X T w.heap.size { X with held := del X.held i, E := reapE X.E [i] } w9 from
      VolTo.comp (X1 := { X with held := del X.held i }) (T1 := T) (fun x hx => hx) (fun b x hx hb => List.mem_cons_of_mem _ (upd_other hx (fun e => hb (e ▸ List.mem_cons_of_mem _ (List.mem_cons_self ..))) _)) (fun b hb => .inl hb) rfl rfl hlt (by simp; omega) k))
  have b0 : ((1 : Int) == 0) = false := rfl
  have c9 := c0'
  rw [hw2] at c9
  clear h h2 h3 k1 hlt hz c1 c2 c4 f4 hmm
  go_enter Tryz.func268, Tryz.ntmps268
  go_wp2_with fail
  rw [← hw2]
  refine hrp.mono ?_
  rintro e w9 ⟨rfl, h9⟩
  have HP := Lib.hid (HK.out w9 h9)
  clear hrp h9 HK
  go_wp2_with fail
  go_ret
  exact ⟨rfl, HP.out⟩
end
end Go.Proofs.YtkhnkidggcjfeaaGreatDoor
end
section
namespace Go.Proofs.YtkhnkidggcjfeaaGreatDoor
open Go.RowKit
open Go.ChangeMaps (setBlock)
def letX (X : VX) (i : Int) : VX :=
  if heldN X.held i = 0 then X else if heldN X.held i = 1 then { X with held := del X.held i, E := reapE X.E [i] } else { X with held := put X.held i (heldN X.held i - 1) }
def letAll (X : VX) (ids : List Int) : VX := ids.foldl letX X
theorem letAll_snoc (X : VX) (ids : List Int) (i : Int) : letAll X (ids ++ [i]) = letX (letAll X ids) i := by
  unfold letAll
  rw [List.foldl_append]; rfl
def HeldOk (M : Nat) (X : VX) : Prop := (X.held.map (·.1)).Nodup ∧ ∀ i, 0 ≤ heldN X.held i ∧ heldN X.held i ≤ M
theorem heldN_put (m : List (Int × Int)) (i n j : Int) : heldN (put m i n) j = if j = i then n else heldN m j := by
  unfold heldN
  rw [look_put]
  split <;> rfl
theorem heldN_del {m : List (Int × Int)} (hd : (m.map (·.1)).Nodup) (i j : Int) : heldN (del m i) j = if j = i then 0 else heldN m j := by
  unfold heldN
  by_cases h : j = i
  · rw [if_pos h, h, look_del_same hd]; rfl
  · rw [if_neg h, look_del_ne h]
theorem letX_ok {M : Nat} {X : VX} (h : HeldOk M X) (i : Int) : HeldOk M (letX X i) := by
  unfold letX
  split
  · exact h
  · split
    · refine ⟨h.1.sublist ((del_sub _ _).map _), fun j => ?_⟩
      show 0 ≤ heldN (del X.held i) j ∧ heldN (del X.held i) j ≤ M
      rw [heldN_del h.1]
      split
      · omega
      · exact h.2 j
    · refine ⟨put_nodup h.1 _ _, fun j => ?_⟩
      show 0 ≤ heldN (put X.held i (heldN X.held i - 1)) j ∧ heldN (put X.held i (heldN X.held i - 1)) j ≤ M
      rw [heldN_put]
      split
      · have := h.2 i; omega
      · exact h.2 j
def codeX (X : VX) (l : List UInt8) : Int := match findX X.E l with
  | none => 8
  | some i => if dirX X.E l = true then 10 else 0
def numX (X : VX) (l : List UInt8) : Int := if codeX X l = 0 then (findX X.E l).getD 0 else 0
def holdX (X : VX) (l : List UInt8) : VX := if codeX X l = 0 then { X with held := put X.held (numX X l) (heldN X.held (numX X l) + 1) } else X
theorem holdX_ok {M : Nat} {X : VX} (h : HeldOk M X) (l : List UInt8) : HeldOk (M + 1) (holdX X l) := by
  unfold holdX
  split
  · refine ⟨put_nodup h.1 _ _, fun j => ?_⟩
    show 0 ≤ heldN (put X.held _ _) j ∧ heldN (put X.held _ _) j ≤ ((M + 1 : Nat) : Int)
    rw [heldN_put]
    split
    · have := h.2 (numX X l); omega
    · have := h.2 j; omega
  · exact ⟨h.1, fun j => by have := h.2 j; omega⟩
section
variable {w0 w w' : World} {S S' S1 : Blocks} {R L L' L1 M : List Rw} {v c n d : Nat} {X X' X1 X2 : VX} {T T' Tc T1 : Tr} {K : Blocks} {sv : Value} {zs : List Int}
theorem let_any {N : Nat} (h : VolIn w0 S R L v X T w) (i : Int) (ho : HeldOk N X) (hN : N ≤ 1000000) :
    Calls Tryz.prog 268 #[.pointer (some ⟨v, 0, none⟩), .int .i64 i] w fun e w' => (∃ k, e = .returned (.int .i64 k)) ∧ VolTo w0 S L v X T w.heap.size (letX X i) w' := by
  have hi := ho.2 i
  unfold letX
  by_cases h0 : heldN X.held i = 0
  · rw [if_pos h0]
    exact (let_none h i h0).mono fun e w' hd => ⟨⟨8, hd.1⟩, hd.2 ▸ h.to _⟩
  · rw [if_neg h0]
    by_cases h1 : heldN X.held i = 1
    · rw [if_pos h1]
      exact (let_last h i h1).mono fun e w' hd => ⟨⟨0, hd.1⟩, hd.2⟩
    · rw [if_neg h1]
      exact (let_more h i rfl (by omega) (by omega)).mono fun e w' hd => ⟨⟨0, hd.1⟩, hd.2⟩
theorem hold_any {N : Nat} (h : VolIn w0 S R L v X T w) (hm : Mx w0) (s : ByteArray) (hs : s.size ≤ maxLen) (ho : HeldOk N X) (hN : N ≤ 1000000) :
    Calls Tryz.prog 267 #[.pointer (some ⟨v, 0, none⟩), .string s] w fun e w' => e = .returned (.tuple #[.int .i64 (numX X s.data.toList), .int .i64 (codeX X s.data.toList)]) ∧ VolTo w0 S L v X T w.heap.size (holdX X s.data.toList) w' := by
  unfold holdX numX
  cases hf : findX X.E s.data.toList with
  | none =>
    have e1 : codeX X s.data.toList = 8 := by unfold codeX; rw [hf]
    rw [e1, if_neg (by decide), if_neg (by decide)]
    exact (hold_none h hm s hs hf).mono fun e w' hd => ⟨hd.1, hd.2.1.to _⟩
  | some i =>
    cases hd : dirX X.E s.data.toList with
    | true =>
      have e1 : codeX X s.data.toList = 10 := by unfold codeX; rw [hf]; simp only; rw [if_pos hd]
      rw [e1, if_neg (by decide), if_neg (by decide)]
      exact (hold_dir h hm s hs hf hd).mono fun e w' hd => ⟨hd.1, hd.2.1.to _⟩
    | false =>
      have e1 : codeX X s.data.toList = 0 := by unfold codeX; rw [hf]; simp only; rw [if_neg (by rw [hd]; decide)]
      rw [e1, if_pos rfl, if_pos rfl]
      have hi := ho.2 i
      exact (hold_yes h hm s hs hf hd rfl ⟨by omega, by omega⟩).mono fun e w' hd => ⟨hd.1, hd.2⟩
end
end Go.Proofs.YtkhnkidggcjfeaaGreatDoor
end
section
namespace Go.Proofs
open Go.Shelf
def Tryz.sortedI151_ren : Go.Shelf.Ren := ⟨fun | 6 => 151 | 8 => 200 | 9 => 67 | 11 => 228 | 13 => 111 | 12 => 110 | 23 => 165 | 24 => 166 | 14 => 156 | 15 => 157 | 16 => 158 | 17 => 159 | 18 => 160 | 19 => 161 | 20 => 162 | 21 => 163 | 22 => 164 | 25 => 204 | 26 => 205 | 27 => 206 | 28 => 207 | 29 => 208 | 30 => 209 | 31 => 230 | n => n, fun | 26 => 3 | 28 => 236 | 24 => 84 | 0 => 0 | 3 => 3 | 37 => 195 | 48 => 226 | 50 => 106 | 4 => 4 | 40 => 245 | 39 => 244 | 45 => 96 | 5 => 5 | 9 => 9 | 51 => 283 | 55 => 287 | 57 => 303 | 58 => 304 | 33 => 88 | n => n, fun | n => n⟩
def Tryz.sortI67_ren : Go.Shelf.Ren := ⟨fun | 5 => 67 | 8 => 111 | 7 => 110 | 19 => 165 | 20 => 166 | 10 => 156 | 11 => 157 | 12 => 158 | 13 => 159 | 14 => 160 | 15 => 161 | 16 => 162 | 17 => 163 | 18 => 164 | 30 => 204 | 31 => 205 | 32 => 206 | 33 => 207 | 34 => 208 | 35 => 209 | 40 => 230 | n => n, fun | 23 => 84 | 25 => 3 | 3 => 3 | 32 => 195 | 22 => 84 | 0 => 0 | 44 => 226 | 46 => 106 | 4 => 4 | 36 => 245 | 35 => 244 | 41 => 96 | 5 => 5 | 9 => 9 | 53 => 283 | 57 => 287 | 63 => 303 | 64 => 304 | n => n, fun | n => n⟩
def Tryz.keysI152_ren : Go.Shelf.Ren := ⟨fun | 7 => 152 | 10 => 201 | n => n, fun | 23 => 80 | 26 => 3 | 3 => 130 | 28 => 236 | 0 => 0 | 27 => 235 | 33 => 88 | 4 => 4 | n => n, fun | n => n⟩
open Go.RowKit Go.Maps Go.Sort Go.Shelf
end Go.Proofs
end
section
namespace Go.Proofs.YtkhnkidggcjfeaaGreatDoor
open Go.RowKit
open Go.ChangeMaps (setBlock)
structure Pr where
  b : Nat
  u : ByteArray
  mv : Value
  maps : List Int
  ends : Bool
def prCells (i : Int) (p : Pr) : Array Value := #[.int .i64 i, .string p.u, p.mv, .bool p.ends]
def PcI (L : List Rw) (v : Value) (zs : List Int) : Prop := (v = .slice none 0 0 ∧ zs = []) ∨ rowI v zs ∈ L
structure Tab where
  tb : Nat
  mb : Nat
  last : Int
  runs : List (Int × Pr)
def runsV (m : List (Int × Pr)) : List (Int × Value) := m.map fun p => (p.1, .pointer (some ⟨p.2.b, 0, none⟩))
def filesV (v : Nat) : Value := .iface 24 (.pointer (some ⟨v, 0, none⟩))
def tabCells (v : Nat) (Y : Tab) : Array Value := #[filesV v, .int .i64 Y.last, .map (some Y.mb)]
def Tab.foot (Y : Tab) : List Nat := Y.tb :: Y.mb :: Y.runs.map fun p => p.2.b
structure TabIn (S : Blocks) (L : List Rw) (v : Nat) (Y : Tab) : Prop where
  cells : (Y.tb, .cells (tabCells v Y) 113) ∈ S
  map : ∃ o, (Y.mb, o) ∈ S ∧ MapO KI o (runsV Y.runs)
  run : ∀ p ∈ Y.runs, (p.2.b, .cells (prCells p.1 p.2) 93) ∈ S ∧ PcI L p.2.mv p.2.maps
  apart : Y.foot.Nodup
theorem TabIn.mono {S S' : Blocks} {L L' : List Rw} {v : Nat} {Y : Tab} (h : TabIn S L v Y) (hs : ∀ b x, b ∈ Y.foot → (b, x) ∈ S → (b, x) ∈ S') (hl : ∀ x ∈ L, x ∈ L') : TabIn S' L' v Y := by
  obtain ⟨o, h1, h2⟩ := h.map
  refine ⟨hs _ _ (List.mem_cons_self ..) h.cells, ⟨o, hs _ _ (List.mem_cons_of_mem _ (List.mem_cons_self ..)) h1, h2⟩, fun p hp => ?_, h.apart⟩
  obtain ⟨h3, h4⟩ := h.run p hp
  exact ⟨hs _ _ (List.mem_cons_of_mem _ (List.mem_cons_of_mem _ (List.mem_map.2 ⟨p, hp, rfl⟩))) h3, h4.imp id (hl _)⟩
def VT (w0 : World) (K : Blocks) (L0 : List Rw) (v : Nat) (X : VX) (Y : Tab) (w : World) : Prop :=
  ∃ S R L T, VolIn w0 S R L v X T w ∧ TabIn S L v Y ∧ (∀ b ∈ Y.foot, b ∉ v :: X.hm :: X.t :: T.foot) ∧ (∀ x ∈ L0, x ∈ L) ∧ (∀ b x, (b, x) ∈ K → (b, x) ∈ S ∧ b ∉ v :: X.hm :: X.t :: T.foot ∧ b ∉ Y.foot)
section
variable {w0 w w' : World} {S S' S1 : Blocks} {R L L' L1 M : List Rw} {v c n d : Nat} {X X' X1 X2 : VX} {T T' Tc T1 : Tr} {Y : Tab}
theorem TabIn.lt (h : TabIn S L v Y) (hO : Own ⟨w0, S⟩ w L') : ∀ b ∈ Y.foot, b < w.heap.size := fun b hb => by
  rcases List.mem_cons.1 hb with rfl | hb
  · exact (hO.atLt h.cells).2
  · rcases List.mem_cons.1 hb with rfl | hb
    · obtain ⟨o, h1, _⟩ := h.map
      exact (hO.atLt h1).2
    · obtain ⟨p, hp, rfl⟩ := List.mem_map.1 hb
      exact (hO.atLt (h.run p hp).1).2
theorem TabIn.mem (h : TabIn S L v Y) : ∀ b ∈ Y.foot, ∃ x, (b, x) ∈ S := fun b hb => by
  rcases List.mem_cons.1 hb with rfl | hb
  · exact ⟨_, h.cells⟩
  · rcases List.mem_cons.1 hb with rfl | hb
    · obtain ⟨o, h1, _⟩ := h.map
      exact ⟨o, h1⟩
    · obtain ⟨p, hp, rfl⟩ := List.mem_map.1 hb
      exact ⟨_, (h.run p hp).1⟩
theorem VolTo.off {m : Nat} {b : Nat} (hb : b ∉ v :: X.hm :: X.t :: T.foot) (hm : b < m) (h4 : ∀ b ∈ X.t :: T'.foot, b ∈ X.t :: T.foot ∨ m ≤ b) (h5 : X'.t = X.t) (h6 : X'.hm = X.hm) : b ∉ v :: X'.hm :: X'.t :: T'.foot := fun hx => by
  rw [h5, h6] at hx
  rcases List.mem_cons.1 hx with rfl | hx
  · exact hb (List.mem_cons_self ..)
  · rcases List.mem_cons.1 hx with rfl | hx
    · exact hb (List.mem_cons_of_mem _ (List.mem_cons_self ..))
    · rcases h4 b hx with h7 | h7
      · exact hb (List.mem_cons_of_mem _ (List.mem_cons_of_mem _ h7))
      · omega
variable {L0 : List Rw} {K : Blocks}
theorem VT.vol (h : VT w0 K L0 v X Y w) {f : FuncId} {args : Array Value} {P : Ending → Prop} (hc : ∀ S R L T, VolIn w0 S R L v X T w → Calls Tryz.prog f args w fun e w' => P e ∧ VolTo w0 S L v X T w.heap.size X' w') : Calls Tryz.prog f args w fun e w' => P e ∧ VT w0 K L0 v X' Y w' := by
  obtain ⟨S, R, L, T, h1, h2, h3, h4, h5⟩ := h
  refine (hc S R L T h1).mono fun e w' hd => ⟨hd.1, ?_⟩
  obtain ⟨S', R', L', T', k1, k2, k3, k4, k5, k6⟩ := hd.2
  refine ⟨S', R', L', T', k1, h2.mono (fun b x hb hx => k3 b x hx (h3 b hb)) k2, fun b hb => VolTo.off (h3 b hb) (h2.lt h1.ownL b hb) k4 k5 k6, fun x hx => k2 x (h4 x hx), fun b x hb => ?_⟩
  obtain ⟨q1, q2, q3⟩ := h5 b x hb
  exact ⟨k3 b x q1 q2, VolTo.off q2 (h1.own.atLt q1).2 k4 k5 k6, q3⟩
theorem VT.below (h : VT w0 K L0 v X Y w) : Below w0.heap.size w0 w := by
  obtain ⟨S, R, L, T, h1, _⟩ := h
  exact h1.below
theorem VT.cellK (h : VT w0 K L0 v X Y w) {b : Nat} {x : Obj} (hb : (b, x) ∈ K) : w.heap[b]? = some x := by
  obtain ⟨S, R, L, T, h1, _, _, _, h5⟩ := h
  exact h1.own.at (h5 b x hb).1
theorem VT.row (h : VT w0 K L0 v X Y w) {r : Rw} (hr : r ∈ L0) : ∃ S, Own ⟨w0, S⟩ w [r] := by
  obtain ⟨S, R, L, T, h1, _, _, h4, _⟩ := h
  exact ⟨S, h1.ownL.only (h4 r hr)⟩
theorem VT.tab (h : VT w0 K L0 v X Y w) : w.cell? ⟨Y.tb, 0, none⟩ = some (filesV v) ∧ w.cell? ⟨Y.tb, 1, none⟩ = some (.int .i64 Y.last) ∧ w.cell? ⟨Y.tb, 2, none⟩ = some (.map (some Y.mb)) := by
  obtain ⟨S, R, L, T, h1, h2, _⟩ := h
  exact ⟨h1.own.cellB h2.cells 0, h1.own.cellB h2.cells 1, h1.own.cellB h2.cells 2⟩
set_option maxHeartbeats 8000000 in
theorem lets_any {N : Nat} (h : VT w0 K L0 v X Y w) (ho : HeldOk N X) (hN : N ≤ 1000000) (a : Option Addr) (ids : List Int) (c : Nat) (hn : ids.length ≤ 1000000) (hid : ∀ w' X', VT w0 K L0 v X' Y w' → ∀ i (h : i < ids.length), ∃ g o, a = some ⟨g, o, none⟩ ∧ w'.cell? ⟨g, o + i, none⟩ = some (.int .i64 ids[i])) :
    Calls Tryz.prog 56 #[.pointer (some ⟨Y.tb, 0, none⟩), .slice a ids.length c] w fun e w' => e = .returned (.tuple #[]) ∧ VT w0 K L0 v (letAll X ids) Y w' := by
  have hall : ∀ k, HeldOk N (letAll X (ids.take k)) := fun k => by
    induction k with
    | zero => exact ho
    | succ k ih =>
      by_cases hk : k < ids.length
      · rw [List.take_succ_eq_append_getElem hk, letAll_snoc]; exact letX_ok ih _
      · rw [List.take_of_length_le (by omega)] at ih ⊢; exact ih
  have hmt : ∀ w : World, (method (Tryz.prog.types.size + Made.depth) 24 (.pointer (some ⟨v, 0, none⟩)) "Let").run Tryz.prog w = .ok (268, .pointer (some ⟨v, 0, none⟩)) w := fun _ => by kernel_rfl
  have Hall := Lib.hid hall
  have Hid := Lib.hid hid
  have H0 := Lib.hid (show VT w0 K L0 v (letAll X (ids.take 0)) Y w by rw [List.take_zero]; exact h)
  clear hall hid h ho
  go_enter Tryz.func56, Tryz.ntmps56
  go_wp2_with fail
  go_loopw [8] (fun iv wr => ∃ k : Nat, k ≤ ids.length ∧ iv = .int .i64 k ∧ VT w0 K L0 v (letAll X (ids.take k)) Y wr) (fun iv _ => ids.length - (intOf iv).toNat)
  case atStart => exact ⟨0, Nat.zero_le _, rfl, H0.out⟩
  case round =>
    obtain ⟨k, hk, rfl, hV⟩ := hrel
    by_cases hkl : k < ids.length
    · obtain ⟨g, o, rfl, hc⟩ := Hid.out wr _ hV k hkl
      obtain ⟨t0, _, _⟩ := hV.tab
      unfold filesV at t0
      have hsn : letAll X (ids.take (k + 1)) = letX (letAll X (ids.take k)) ids[k] := by rw [List.take_succ_eq_append_getElem hkl, letAll_snoc]
      have hlet := hV.vol (X' := letX (letAll X (ids.take k)) ids[k]) (P := fun e => ∃ kc, e = .returned (.int .i64 kc)) (f := 268) (args := #[.pointer (some ⟨v, 0, none⟩), .int .i64 ids[k]]) (fun S R L T h1 => let_any h1 ids[k] (Hall.out k) hN)
      rw [← hsn] at hlet
      have hb63 : (k : Int) < (ids.length : Int) := by exact_mod_cast hkl
      clear hV hsn
      generalize ids[k] = z at *
      go_wp2_with fail
      refine hlet.mono ?_
      rintro e w5 ⟨⟨kc, rfl⟩, h5⟩
      have H5 := Lib.hid h5
      clear h5 hlet
      go_wp2_with fail
      go_roundw
      case rel => exact ⟨k + 1, by omega, by go_num, H5.out⟩
      case measure => (simp [intOf]) <;> omega
    · have hke : k = ids.length := by omega
      subst hke
      rw [List.take_length] at hV
      have HP := Lib.hid hV
      have hb63 : ¬ ((ids.length : Int) < (ids.length : Int)) := Int.lt_irrefl _
      clear hV
      go_wp2_with fail
      go_end0
      exact ⟨rfl, HP.out⟩
end
end Go.Proofs.YtkhnkidggcjfeaaGreatDoor
end
section
namespace Go.Proofs.YtkhnkidggcjfeaaGreatDoor
open Go.RowKit
open Go.ChangeMaps (setBlock)
def holdFrom (s : VX × List Int) : List (List UInt8) → Int × List Int × VX
  | [] => (0, s.2, s.1)
  | l :: r => if codeX s.1 l = 0 then holdFrom (holdX s.1 l, s.2 ++ [numX s.1 l]) r else (codeX s.1 l, [], letAll s.1 s.2)
section
variable {w0 w w' : World} {S S' S1 : Blocks} {R L L' L1 M L0 : List Rw} {v c n d : Nat} {X X' X1 X2 : VX} {T T' Tc T1 : Tr} {Y : Tab} {K : Blocks} {fv : Value} {acc : List Int}
theorem rowI_own {fv : Value} {acc : List Int} (hO : Own ⟨w0, S⟩ w (rowI fv acc :: L)) (h : fv.ownBlock = none) : fv = .slice none 0 0 ∧ acc = [] := by
  rcases hO.head.2 with ⟨h1, h2⟩ | ⟨g, cp, cur, h1, _⟩
  · exact ⟨h1, List.eq_nil_of_length_eq_zero h2⟩
  · have h1' : fv = .slice (some ⟨g, 0, none⟩) acc.length cp := h1
    rw [h1'] at h; cases h
theorem VolIn.rowOut (h : VolIn w0 S R L' v X T w) (hr : rowI fv acc ∈ L') (hap : fv = .slice none 0 0 ∨ ∀ x ∈ L, x ≠ rowI fv acc) (hL : ∀ x ∈ L, x ∈ L') : ∃ L2, VolIn w0 S R (rowI fv acc :: L2) v X T w ∧ (∀ x ∈ L, x ∈ L2) := by
  have hmono : ∀ L2 : List Rw, (∀ x ∈ L', x ∈ rowI fv acc :: L2) → Own ⟨w0, S⟩ w (R ++ (rowI fv acc :: L2)) → VolIn w0 S R (rowI fv acc :: L2) v X T w := fun L2 hs hO =>
    { h with own := hO, tree := h.tree.mono (fun b x _ hx => hx) (fun _ _ hh => hh.mono hs) }
  rcases hap with hn | hne
  · have hacc : acc = [] := by
      have hone := h.ownL.only hr
      exact (rowI_own hone (by rw [hn]; rfl)).2
    subst hn hacc
    exact ⟨L', hmono L' (fun x hx => List.mem_cons_of_mem _ hx) ((Own.nil h.own 3 1).perm List.perm_middle.symm), hL⟩
  · obtain ⟨A, B, rfl⟩ := List.append_of_mem hr
    refine ⟨A ++ B, hmono (A ++ B) (fun x hx => ?_) (h.own.perm (List.Perm.append_left R List.perm_middle)), fun x hx => ?_⟩
    · rcases List.mem_append.1 hx with hx | hx
      · exact List.mem_cons_of_mem _ (List.mem_append_left _ hx)
      · rcases List.mem_cons.1 hx with rfl | hx
        · exact List.mem_cons_self ..
        · exact List.mem_cons_of_mem _ (List.mem_append_right _ hx)
    · rcases List.mem_append.1 (hL x hx) with h1 | h1
      · exact List.mem_append_left _ h1
      · rcases List.mem_cons.1 h1 with e | h1
        · exact absurd e (hne x hx)
        · exact List.mem_append_right _ h1
theorem VolIn.rowNew {fv' : Value} {acc' : List Int} (h : VolIn w0 S R (rowI fv acc :: L) v X T w) (hO : Own ⟨w0, S⟩ w' (rowI fv' acc' :: (R ++ L))) : VolIn w0 S R (rowI fv' acc' :: L) v X T w' :=
  { h with own := hO.perm List.perm_middle.symm, tree := h.tree.mono (fun b x _ hx => hx) (fun _ _ hh => hh.keep fun x hx he => by
      rcases List.mem_cons.1 hx with rfl | hx
      · exact absurd he (by show ¬ (3 : Nat) = 5; decide)
      · exact List.mem_cons_of_mem _ hx) }
def VTR (w0 : World) (K : Blocks) (L0 : List Rw) (v : Nat) (X : VX) (Y : Tab) (fv : Value) (acc : List Int) (w : World) : Prop :=
  ∃ S R L T, VolIn w0 S R (rowI fv acc :: L) v X T w ∧ TabIn S L v Y ∧ (∀ b ∈ Y.foot, b ∉ v :: X.hm :: X.t :: T.foot) ∧ (∀ x ∈ L0, x ∈ L) ∧ (∀ b x, (b, x) ∈ K → (b, x) ∈ S ∧ b ∉ v :: X.hm :: X.t :: T.foot ∧ b ∉ Y.foot)
theorem VTR.vt (h : VTR w0 K L0 v X Y fv acc w) : VT w0 K (rowI fv acc :: L0) v X Y w := by
  obtain ⟨S, R, L, T, h1, h2, h3, h4, h5⟩ := h
  refine ⟨S, R, _, T, h1, h2.mono (fun b x _ hx => hx) (fun x hx => List.mem_cons_of_mem _ hx), h3, fun x hx => ?_, h5⟩
  rcases List.mem_cons.1 hx with rfl | hx
  · exact List.mem_cons_self ..
  · exact List.mem_cons_of_mem _ (h4 x hx)
theorem VT.vtr (h : VT w0 K L0 v X Y w) : VTR w0 K L0 v X Y (.slice none 0 0) [] w := by
  obtain ⟨S, R, L, T, h1, h2, h3, h4, h5⟩ := h
  exact ⟨S, R, L, T, { h1 with own := (Own.nil h1.own 3 1).perm List.perm_middle.symm, tree := h1.tree.mono (fun b x _ hx => hx) (fun _ _ hh => hh.mono fun x hx => List.mem_cons_of_mem _ hx) }, h2, h3, h4, h5⟩
theorem VTR.vol (h : VTR w0 K L0 v X Y fv acc w) {f : FuncId} {args : Array Value} {P : Ending → Prop} (hc : ∀ S R L T, VolIn w0 S R L v X T w → Calls Tryz.prog f args w fun e w' => P e ∧ VolTo w0 S L v X T w.heap.size X' w') : Calls Tryz.prog f args w fun e w' => P e ∧ VTR w0 K L0 v X' Y fv acc w' := by
  obtain ⟨S, R, L, T, h1, h2, h3, h4, h5⟩ := h
  refine (hc S R _ T h1).mono fun e w' hd => ⟨hd.1, ?_⟩
  obtain ⟨S', R', L', T', k1, k2, k3, k4, k5, k6⟩ := hd.2
  have hap : fv = .slice none 0 0 ∨ ∀ x ∈ L, x ≠ rowI fv acc := by
    cases hb : fv.ownBlock with
    | none => exact .inl (rowI_own (h1.ownL.only (List.mem_cons_self ..)) hb).1
    | some g =>
      refine .inr fun x hx e => ?_
      have hp := (List.pairwise_cons.1 h1.ownL.apart).1 x hx
      rw [e] at hp
      rcases hp with hp | hp
      · have hp' : fv.ownBlock = none := hp
        rw [hb] at hp'; cases hp'
      · exact hp rfl
  obtain ⟨L2, q1, q2⟩ := k1.rowOut (k2 _ (List.mem_cons_self ..)) hap (fun x hx => k2 x (List.mem_cons_of_mem _ hx))
  refine ⟨S', R', L2, T', q1, h2.mono (fun b x hb hx => k3 b x hx (h3 b hb)) q2, fun b hb => VolTo.off (h3 b hb) (h2.lt h1.ownL b hb) k4 k5 k6, fun x hx => q2 x (h4 x hx), fun b x hb => ?_⟩
  obtain ⟨p1, p2, p3⟩ := h5 b x hb
  exact ⟨k3 b x p1 p2, VolTo.off p2 (h1.own.atLt p1).2 k4 k5 k6, p3⟩
end
end Go.Proofs.YtkhnkidggcjfeaaGreatDoor
end
section
namespace Go.Proofs.YtkhnkidggcjfeaaGreatDoor
open Go.RowKit
open Go.ChangeMaps (setBlock)
section
variable {w0 w w' : World} {S S' S1 : Blocks} {R L L' L1 M L0 : List Rw} {v c n d : Nat} {X X' X1 X2 : VX} {T T' Tc T1 : Tr} {Y : Tab} {K : Blocks} {fv : Value} {acc : List Int}
theorem VTR.grow (h : VTR w0 K L0 v X Y fv acc w) : ∃ S R L, Own ⟨w0, S⟩ w (⟨3, 1, fv, acc.length, acc.map (Value.int .i64)⟩ :: (R ++ L)) ∧ ∀ w' fv' acc', Own ⟨w0, S⟩ w' (⟨3, 1, fv', acc'.length, acc'.map (Value.int .i64)⟩ :: (R ++ L)) → VTR w0 K L0 v X Y fv' acc' w' := by
  obtain ⟨S, R, L, T, h1, h2, h3, h4, h5⟩ := h
  exact ⟨S, R, L, h1.own.perm List.perm_middle, fun w' fv' acc' hO => ⟨S, R, L, T, h1.rowNew hO, h2, h3, h4, h5⟩⟩
theorem VTR.weak (h : VTR w0 K L0 v X Y fv acc w) : VT w0 K L0 v X Y w := by
  obtain ⟨S, R, L, T, h1, h2, h3, h4, h5⟩ := h.vt
  exact ⟨S, R, L, T, h1, h2, h3, fun x hx => h4 x (List.mem_cons_of_mem _ hx), h5⟩
def HoldAt (w0 : World) (K : Blocks) (L0 : List Rw) (v : Nat) (X : VX) (Y : Tab) (ps : List ByteArray) (e : Ending) (w' : World) : Prop :=
  ∃ fv, e = .returned (.tuple #[fv, .int .i64 (holdFrom (X, []) (ps.map fun p => p.data.toList)).1]) ∧ VTR w0 K L0 v (holdFrom (X, []) (ps.map fun p => p.data.toList)).2.2 Y fv (holdFrom (X, []) (ps.map fun p => p.data.toList)).2.1 w'
set_option maxHeartbeats 16000000 in
theorem holds_any {N : Nat} (h : VT w0 K L0 v X Y w) (hm : Mx w0) (ho : HeldOk N X) (a : Option Addr) (ps : List ByteArray) (c : Nat) (hN : N + ps.length ≤ 1000000) (hsz : ∀ p ∈ ps, p.size ≤ maxLen) (hps : ∀ w' X', VT w0 K L0 v X' Y w' → ∀ i (h : i < ps.length), ∃ g o, a = some ⟨g, o, none⟩ ∧ w'.cell? ⟨g, o + i, none⟩ = some (.string ps[i])) :
    Calls Tryz.prog 91 #[.pointer (some ⟨Y.tb, 0, none⟩), .slice a ps.length c] w (HoldAt w0 K L0 v X Y ps) := by
  have hmt : ∀ w : World, (method (Tryz.prog.types.size + Made.depth) 24 (.pointer (some ⟨v, 0, none⟩)) "Hold").run Tryz.prog w = .ok (267, .pointer (some ⟨v, 0, none⟩)) w := fun _ => by kernel_rfl
  obtain ⟨qs, hqs⟩ : ∃ qs, qs = ps.map fun p => p.data.toList := ⟨_, rfl⟩
  obtain ⟨res, hres⟩ : ∃ res, res = holdFrom (X, []) qs := ⟨_, rfl⟩
  have hql : qs.length = ps.length := by rw [hqs]; simp
  have H0 := Lib.hid (show ∃ acc X1, VTR w0 K L0 v X1 Y (.slice none 0 0) acc w ∧ holdFrom (X1, acc) (qs.drop 0) = res ∧ acc.length = 0 ∧ HeldOk (N + 0) X1 from ⟨[], X, h.vtr, by rw [hres]; rfl, rfl, ho⟩)
  have Hps := Lib.hid hps
  have Hsz := Lib.hid hsz
  have Hql := Lib.hid hql
  have Hqs := Lib.hid hqs
  have Hend := Lib.hid (show ∀ fv w', VTR w0 K L0 v res.2.2 Y fv res.2.1 w' → HoldAt w0 K L0 v X Y ps (.returned (.tuple #[fv, .int .i64 res.1])) w' from fun fv w' k => by rw [hres, hqs] at k ⊢; exact ⟨fv, rfl, k⟩)
  obtain ⟨i0, hi, hz0, hz1, hz2⟩ := info_parts info_i
  clear hps hsz hql h ho hqs hres
  go_enter Tryz.func91, Tryz.ntmps91
  go_wp2_with fail
  go_loopw [6, 13] (fun u iv wr => ∃ k : Nat, k ≤ ps.length ∧ iv = .int .i64 k ∧ ∃ acc X1, VTR w0 K L0 v X1 Y u acc wr ∧ holdFrom (X1, acc) (qs.drop k) = res ∧ acc.length = k ∧ HeldOk (N + k) X1) (fun _ iv _ => ps.length - (intOf iv).toNat)
  case atStart => exact ⟨0, Nat.zero_le _, rfl, H0.out⟩
  case round =>
    obtain ⟨k, hk, rfl, acc, X1, hV, hf, hal, hok⟩ := hrel
    by_cases hkl : k < ps.length
    · obtain ⟨g, o, rfl, hc⟩ := Hps.out wr _ hV.weak k hkl
      obtain ⟨t0, _, _⟩ := hV.weak.tab
      unfold filesV at t0
      have hss := Hsz.out ps[k] (List.getElem_mem _)
      have hdr : qs.drop k = ps[k].data.toList :: qs.drop (k + 1) := by
        rw [List.drop_eq_getElem_cons (by rw [Hql.out]; exact hkl)]
        congr 1
        simp [Hqs.out]
      rw [hdr] at hf
      have hhd := hV.vol (X' := holdX X1 ps[k].data.toList) (P := fun e => e = .returned (.tuple #[.int .i64 (numX X1 ps[k].data.toList), .int .i64 (codeX X1 ps[k].data.toList)])) (f := 267) (args := #[.pointer (some ⟨v, 0, none⟩), .string ps[k]]) (fun S R L T h1 => hold_any h1 hm ps[k] hss hok (by omega))
      have hok2 := holdX_ok hok ps[k].data.toList
      have hb63 : (k : Int) < (ps.length : Int) := by exact_mod_cast hkl
      clear hV hdr hss
      generalize ps[k] = s at *
      unfold holdFrom at hf
      simp only at hf
      obtain ⟨cd, hcd⟩ : ∃ cd, codeX X1 s.data.toList = cd := ⟨_, rfl⟩
      obtain ⟨id, hid⟩ : ∃ id, numX X1 s.data.toList = id := ⟨_, rfl⟩
      rw [hcd, hid] at hf hhd
      by_cases h0 : cd = 0
      · subst h0
        rw [if_pos rfl] at hf
        have Hf := Lib.hid hf
        have Hok := Lib.hid hok2
        clear hf hok2 hok hcd hid
        go_wp2_with fail
        refine hhd.mono ?_
        rintro e w5 ⟨rfl, h5⟩
        obtain ⟨S5, R5, L5, hO5, hback⟩ := h5.grow
        obtain ⟨fa, fc, hfv, _, _⟩ := Own.sized (h := hO5)
        subst hfv
        have HO6 := Lib.hid (show Own ⟨w0, S5⟩ (w5.alloc (.cells #[.int .i64 id] 3)) (⟨3, 1, .slice fa acc.length fc, acc.length, acc.map (Value.int .i64)⟩ :: (R5 ++ L5)) from hO5.alloc _)
        have hsrc : Src (w5.alloc (.cells #[.int .i64 id] 3)) (.slice (some ⟨w5.heap.size, 0, none⟩) 1 1) 1 [.int .i64 id] := by
          refine .inr ⟨_, _, rfl, fun j u hj => ?_, fun u hu => by rw [List.mem_singleton.1 hu]; rfl⟩
          rw [Addr.add_mid, Nat.zero_add, World.cell?_alloc_new]
          simpa using hj
        have Hsrc := Lib.hid hsrc
        have Hb1 := Lib.hid (show acc.length + 1 ≤ maxLen by unfold maxLen; omega)
        have Hb2 := Lib.hid (show (acc.length + 1) * 8 ≤ 140737488355328 by omega)
        have Hback := Lib.hid (fun v7 w7 (hO7 : Own ⟨w0, S5⟩ w7 (⟨3, 1, v7, acc.length + 1, acc.map (Value.int .i64) ++ [.int .i64 id]⟩ :: (R5 ++ L5))) => hback w7 v7 (acc ++ [id]) (by
          rw [List.length_append, List.map_append]; exact hO7))
        have Hal := Lib.hid hal
        clear hO5 hsrc hback h5 hhd hal
        go_wp2_with (at_builtin; refine wpList_append_src rfl (.tmp 32) (.tmp 34) 84 rfl (.slice fa acc.length fc) acc.length (acc.map (Value.int .i64)) (.slice (some ⟨w5.heap.size, 0, none⟩) 1 1) 1 [.int .i64 id] rfl rfl HO6.out i0 (.int .i64 0) 8 Tryz.underlying84 hi hz0 hz1 hz2 rfl (by decide) Hsrc.out (by simp) Hb1.out Hb2.out ?_)
        intro v7 w7 hO7
        have HV := Lib.hid (Hback.out v7 w7 hO7)
        obtain ⟨a7, c7, hv7, _, _⟩ := Own.sized (h := hO7)
        subst hv7
        clear hO7 HO6 Hsrc Hb1 Hb2 Hback
        go_wp2_with fail
        go_roundw
        case rel => exact ⟨k + 1, by omega, by go_num, acc ++ [id], _, HV.out, Hf.out, by rw [List.length_append, Hal.out]; rfl, Hok.out⟩
        case measure => (simp [intOf]) <;> omega
      · rw [if_neg h0] at hf
        have hX2 : holdX X1 s.data.toList = X1 := by unfold holdX; rw [hcd, if_neg h0]
        rw [hX2] at hhd
        have hne : (cd != 0) = true := by simp [h0]
        have Hf := Lib.hid hf
        have Hok := Lib.hid hok
        have Hal := Lib.hid hal
        have H0c := Lib.hid h0
        clear hf hok2 hok hcd hid hX2 hal h0
        go_wp2_with fail
        refine hhd.mono ?_
        rintro e w5 ⟨rfl, h5⟩
        obtain ⟨_, hrow⟩ := h5.vt.row (List.mem_cons_self ..)
        obtain ⟨fa, fc, hfv, _, _⟩ := Own.sized (h := (show Own _ w5 (⟨3, 1, _, acc.length, acc.map (Value.int .i64)⟩ :: []) from hrow))
        subst hfv
        have hlt := lets_any h5.vt Hok.out (by omega) fa acc fc (by rw [Hal.out]; omega) (fun w' X' k1 i hi => by
          obtain ⟨_, hr⟩ := k1.row (List.mem_cons_self ..)
          have hr' : Own _ w' (⟨3, 1, .slice fa acc.length fc, acc.length, acc.map (Value.int .i64)⟩ :: []) := hr
          obtain ⟨g5, cp5, e5, _⟩ := Own.form (h := hr') (by omega)
          injection e5 with e6 e7 e8
          subst e6
          refine ⟨g5, 0, rfl, ?_⟩
          rw [Nat.zero_add, Own.cell (h := hr') i (by omega), List.getElem?_map, List.getElem?_eq_getElem hi]; rfl)
        clear hrow h5 hhd
        go_wp2_with fail
        refine hlt.mono ?_
        rintro e w6 ⟨rfl, h6⟩
        have hV6 : VTR w0 K L0 v (letAll X1 acc) Y (.slice none 0 0) [] w6 := by
          obtain ⟨S, R, L, T, k1, k2, k3, k4, k5⟩ := h6
          exact VT.vtr ⟨S, R, L, T, k1, k2, k3, fun x hx => k4 x (List.mem_cons_of_mem _ hx), k5⟩
        have HP := Lib.hid (show HoldAt w0 K L0 v X Y ps (.returned (.tuple #[.slice none 0 0, .int .i64 cd])) w6 from by
          have := Hend.out (.slice none 0 0) w6 (by rw [← Hf.out]; exact hV6)
          rw [← Hf.out] at this
          exact this)
        clear hlt h6 hV6
        go_wp2_with fail
        go_ret2
        exact HP.out
    · have hke : k = ps.length := by omega
      subst hke
      rw [List.drop_of_length_le (by rw [Hql.out]; exact Nat.le_refl _)] at hf
      have hf2 : ((0 : Int), acc, X1) = res := hf
      have HP := Lib.hid (show HoldAt w0 K L0 v X Y ps (.returned (.tuple #[u6, .int .i64 0])) wr from by
        have := Hend.out u6 wr (by rw [← hf2]; exact hV)
        rw [← hf2] at this
        exact this)
      have hb63 : ¬ ((ps.length : Int) < (ps.length : Int)) := Int.lt_irrefl _
      clear hV hf hf2
      go_wp2_with fail
      go_ret2
      exact HP.out
end
end Go.Proofs.YtkhnkidggcjfeaaGreatDoor
end
section
namespace Go.Proofs.YtkhnkidggcjfeaaGreatDoor
open Go.RowKit
open Go.ChangeMaps (setBlock)
section
variable {w0 w w' : World} {S S' S1 : Blocks} {R L L' L1 M L0 : List Rw} {v c n d : Nat} {X X' X1 X2 : VX} {T T' Tc T1 : Tr} {Y Y' : Tab} {K K' : Blocks} {fv : Value} {acc : List Int}
theorem VT.later (h : VT w0 K L0 v X Y w) (hb : Below w.heap.size w w') : VT w0 K L0 v X Y w' := by
  obtain ⟨S, R, L, T, h1, h2⟩ := h
  exact ⟨S, R, L, T, h1.later hb, h2⟩
theorem VT.drew (h : VT w0 K L0 v X Y w) : VT w0 K L0 v X Y w.drew := h.later (Below.refl _ w).drew
theorem VT.rows (h : VT w0 K L0 v X Y w) (hs : ∀ x ∈ L1, x ∈ L0) : VT w0 K L1 v X Y w := by
  obtain ⟨S, R, L, T, h1, h2, h3, h4, h5⟩ := h
  exact ⟨S, R, L, T, h1, h2, h3, fun x hx => h4 x (hs x hx), h5⟩
theorem VT.blocks (h : VT w0 K L0 v X Y w) (hs : ∀ b x, (b, x) ∈ K' → (b, x) ∈ K) : VT w0 K' L0 v X Y w := by
  obtain ⟨S, R, L, T, h1, h2, h3, h4, h5⟩ := h
  exact ⟨S, R, L, T, h1, h2, h3, h4, fun b x hb => h5 b x (hs b x hb)⟩
theorem VT.all (h : VT w0 K L0 v X Y w) : ∃ L, (∀ x ∈ L0, x ∈ L) ∧ (∀ p ∈ Y.runs, PcI L p.2.mv p.2.maps) ∧ VT w0 K L v X Y w := by
  obtain ⟨S, R, L, T, h1, h2, h3, h4, h5⟩ := h
  exact ⟨L, h4, fun p hp => (h2.run p hp).2, S, R, L, T, h1, h2, h3, fun _ hx => hx, h5⟩
theorem VT.turn (h1 : VolIn w0 S R L v X T w) (h3 : ∀ b ∈ Y.foot, b ∉ v :: X.hm :: X.t :: T.foot) (h4 : ∀ x ∈ L0, x ∈ L) (h5 : ∀ b x, (b, x) ∈ K → (b, x) ∈ S ∧ b ∉ v :: X.hm :: X.t :: T.foot ∧ b ∉ Y.foot)
    (hO : Own ⟨w0, S'⟩ w' (R ++ L)) (hk : ∀ b x, (b, x) ∈ S → b ∉ Y.foot → (b, x) ∈ S') (ht : TabIn S' L v Y') (hf : ∀ b ∈ Y'.foot, b ∈ Y.foot ∨ w.heap.size ≤ b) : VT w0 K L0 v X Y' w' := by
  refine ⟨S', R, L, T, h1.base hO fun b x hx hb => hk b x hx fun hy => h3 b hy hb, ht, fun b hb hx => ?_, h4, fun b x hb => ?_⟩
  · rcases hf b hb with hy | hy
    · exact h3 b hy hx
    · have := (h1.lt hx).2; omega
  · obtain ⟨q1, q2, q3⟩ := h5 b x hb
    refine ⟨hk b x q1 q3, q2, fun hy => ?_⟩
    rcases hf b hy with hy | hy
    · exact q3 hy
    · have := (h1.own.atLt q1).2; omega
theorem VT.free (h : VT w0 K L0 v X Y w) (j : Nat) : w.frozen? ⟨Y.tb, j, none⟩ = false := by
  obtain ⟨S, R, L, T, h1, h2, _⟩ := h
  exact free_at (h1.own.at h2.cells) j
theorem VT.setLast (h : VT w0 K L0 v X Y w) (n : Int) : VT w0 K L0 v X { Y with last := n } (w.setCell ⟨Y.tb, 1, none⟩ (.int .i64 n)) := by
  obtain ⟨S, R, L, T, h1, h2, h3, h4, h5⟩ := h
  have hO := h1.own.storeB h2.cells 1 (.int .i64 n)
  have hO' : Own ⟨w0, upd S Y.tb (.cells (tabCells v { Y with last := n }) 113)⟩ (w.setCell ⟨Y.tb, 1, none⟩ (.int .i64 n)) (R ++ L) := hO
  have hn := List.nodup_cons.1 h2.apart
  have hk : ∀ b x, (b, x) ∈ S → b ≠ Y.tb → (b, x) ∈ upd S Y.tb (.cells (tabCells v { Y with last := n }) 113) := fun b x hb hne => upd_other hb hne _
  obtain ⟨o, m1, m2⟩ := h2.map
  refine VT.turn h1 h3 h4 h5 hO' (fun b x hb hne => hk b x hb fun e => hne (e ▸ List.mem_cons_self ..)) ⟨upd_same h2.cells _, ⟨o, hk _ _ m1 fun e => hn.1 (e ▸ List.mem_cons_self ..), m2⟩, fun p hp => ?_, h2.apart⟩ fun b hb => .inl hb
  obtain ⟨r1, r2⟩ := h2.run p hp
  exact ⟨hk _ _ r1 fun e => hn.1 (e ▸ List.mem_cons_of_mem _ (List.mem_map.2 ⟨p, hp, rfl⟩)), r2⟩
theorem runsV_put (m : List (Int × Pr)) (i : Int) (p : Pr) : put (runsV m) i (.pointer (some ⟨p.b, 0, none⟩)) = runsV (put m i p) := by
  unfold runsV
  induction m with
  | nil => rfl
  | cons q r ih =>
    simp only [List.map_cons]
    unfold put
    by_cases hp : q.1 = i
    · rw [if_pos hp, if_pos hp]; rfl
    · rw [if_neg hp, if_neg hp, List.map_cons, ih]
theorem VT.addRun (h : VT w0 K L0 v X Y w) {i : Int} (hn : look Y.runs i = none) (p : Pr) (hb : p.b = w.heap.size) (hm : PcI L0 p.mv p.maps) :
    ∃ o', (Instr.mapUpdate 111 (.map (some Y.mb)) (.int .i64 i) (.pointer (some ⟨w.heap.size, 0, none⟩))).run Tryz.prog (w.alloc (.cells (prCells i p) 93)) = .ok () (setBlock (w.alloc (.cells (prCells i p) 93)) Y.mb o') ∧
      VT w0 K L0 v X { Y with runs := put Y.runs i p } (setBlock (w.alloc (.cells (prCells i p) 93)) Y.mb o') := by
  obtain ⟨S, R, L, T, h1, h2, h3, h4, h5⟩ := h
  have hO := h1.own.newB (.cells (prCells i p) 93)
  obtain ⟨o, m1, m2⟩ := h2.map
  have m1' := List.mem_cons_of_mem (w.heap.size, Obj.cells (prCells i p) 93) m1
  obtain ⟨o', hup, m3⟩ := m2.update kindsI Tryz.underlying111 (hO.at m1') i (.pointer (some ⟨w.heap.size, 0, none⟩))
  rw [← hb, runsV_put] at m3
  have hO2 := hO.setB m1' o'
  have hlow := h2.lt h1.ownL
  have hmlt := (h1.own.atLt m1).2
  have hap := h2.apart
  have hn1 := List.nodup_cons.1 hap
  have hn2 := List.nodup_cons.1 hn1.2
  have hk : ∀ b x, (b, x) ∈ S → b ≠ Y.mb → (b, x) ∈ upd ((w.heap.size, Obj.cells (prCells i p) 93) :: S) Y.mb o' := fun b x hb hne => upd_other (List.mem_cons_of_mem _ hb) hne _
  have hpn := put_new (look_none_key hn) p
  have hft : ({ Y with runs := put Y.runs i p } : Tab).foot = Y.foot ++ [p.b] := by
    unfold Tab.foot
    rw [hpn, List.map_append]; rfl
  refine ⟨o', hup, VT.turn h1 h3 h4 h5 hO2 (fun b x hb hne => hk b x hb fun e => hne (e ▸ List.mem_cons_of_mem _ (List.mem_cons_self ..))) ⟨hk _ _ h2.cells fun e => hn1.1 (e ▸ List.mem_cons_self ..), ⟨o', upd_same m1' _, m3⟩, fun q hq => ?_, ?_⟩ fun b hb => ?_⟩
  · have hq' : q ∈ put Y.runs i p := hq
    rw [hpn] at hq'
    rcases List.mem_append.1 hq' with hq' | hq'
    · obtain ⟨r1, r2⟩ := h2.run q hq'
      exact ⟨hk _ _ r1 fun e => hn2.1 (e ▸ List.mem_map.2 ⟨q, hq', rfl⟩), r2⟩
    · rw [List.mem_singleton] at hq'
      subst hq'
      refine ⟨?_, hm.imp id (h4 _)⟩
      rw [hb]
      exact upd_other (List.mem_cons_self ..) (by omega) _
  · rw [hft]
    exact List.nodup_append.2 ⟨hap, by simp, fun x hx y hy e => by
      rw [List.mem_singleton] at hy
      have := hlow x hx
      omega⟩
  · rw [hft] at hb
    rcases List.mem_append.1 hb with hb | hb
    · exact .inl hb
    · rw [List.mem_singleton] at hb
      right; omega
theorem VT.found (h : VT w0 K L0 v X Y w) (i : Int) : (Instr.lookup 111 (.map (some Y.mb)) (.int .i64 i) true).run Tryz.prog w = .ok (.tuple #[((look Y.runs i).map fun p => Value.pointer (some ⟨p.b, 0, none⟩)).getD (.pointer none), .bool (look Y.runs i).isSome]) w := by
  obtain ⟨S, R, L, T, h1, h2, h3, h4, h5⟩ := h
  obtain ⟨o, m1, m2⟩ := h2.map
  have hl := MapO.lookup kindsI Tryz.underlying111 (z := .pointer none) (by kernel_rfl) m2 (h1.own.at m1) i true
  rw [show look (runsV Y.runs) i = (look Y.runs i).map (fun p => Value.pointer (some ⟨p.b, 0, none⟩)) from look_map (fun p : Pr => Value.pointer (some ⟨p.b, 0, none⟩)) Y.runs i] at hl
  rw [hl, if_pos rfl]
  cases look Y.runs i <;> rfl
theorem VT.len (h : VT w0 K L0 v X Y w) (ty : TypeId) : (Builtin.len_ #[111] ty #[.map (some Y.mb)]).run Tryz.prog w = .ok (goInt Y.runs.length) w := by
  obtain ⟨S, R, L, T, h1, h2, h3, h4, h5⟩ := h
  obtain ⟨o, m1, m2⟩ := h2.map
  have := MapO.length Tryz.underlying111 m2 (h1.own.at m1) ty
  rwa [show (runsV Y.runs).length = Y.runs.length by simp [runsV]] at this
theorem VT.proc (h : VT w0 K L0 v X Y w) {i : Int} {p : Pr} (hp : look Y.runs i = some p) (j : Nat) : w.cell? ⟨p.b, j, none⟩ = (prCells i p)[j]? ∧ w.frozen? ⟨p.b, j, none⟩ = false := by
  obtain ⟨S, R, L, T, h1, h2, h3, h4, h5⟩ := h
  have hr := (h2.run _ (look_mem hp)).1
  exact ⟨h1.own.cellB hr j, free_at (h1.own.at hr) j⟩
theorem VT.delRun (h : VT w0 K L0 v X Y w) (hd : (Y.runs.map (·.1)).Nodup) {i : Int} {p : Pr} (hp : look Y.runs i = some p) :
    ∃ o' L1, (Builtin.delete_ #[111, 3] 0 #[.map (some Y.mb), .int .i64 i]).run Tryz.prog w = .ok (.tuple #[]) (setBlock w Y.mb o') ∧ (∀ x ∈ L0, x ∈ L1) ∧ PcI L1 p.mv p.maps ∧
      VT w0 ((p.b, .cells (prCells i p) 93) :: K) L1 v X { Y with runs := del Y.runs i } (setBlock w Y.mb o') := by
  obtain ⟨S, R, L, T, h1, h2, h3, h4, h5⟩ := h
  obtain ⟨r1, r2⟩ := h2.run _ (look_mem hp)
  obtain ⟨o, m1, m2⟩ := h2.map
  obtain ⟨o', hdel, m3⟩ := m2.delete (w := w) kindsI Tryz.underlying111 (h1.own.at m1) i 0
  have e : del (runsV Y.runs) i = runsV (del Y.runs i) := (del_map (fun q : Pr => Value.pointer (some ⟨q.b, 0, none⟩)) Y.runs i).symm
  rw [e] at m3
  have hO := h1.own.setB m1 o'
  have hn1 := List.nodup_cons.1 h2.apart
  have hn2 := List.nodup_cons.1 hn1.2
  have hpm : p.b ∈ Y.runs.map fun q => q.2.b := List.mem_map.2 ⟨_, look_mem hp, rfl⟩
  have hk : ∀ b x, (b, x) ∈ S → b ≠ Y.mb → (b, x) ∈ upd S Y.mb o' := fun b x hb hne => upd_other hb hne _
  have hsub := del_sub Y.runs i
  have hperm := del_eq_perm hd hp
  have hnd2 : (p.b :: (del Y.runs i).map fun q => q.2.b).Nodup := by
    have := (hperm.map fun q : Int × Pr => q.2.b).nodup_iff.1 hn2.2
    exact this
  have hpf : p.b ∉ ({ Y with runs := del Y.runs i } : Tab).foot := fun hx => by
    rcases List.mem_cons.1 hx with hx | hx
    · exact hn1.1 (hx ▸ List.mem_cons_of_mem _ hpm)
    · rcases List.mem_cons.1 hx with hx | hx
      · exact hn2.1 (hx ▸ hpm)
      · exact (List.nodup_cons.1 hnd2).1 hx
  have hfs : ({ Y with runs := del Y.runs i } : Tab).foot.Sublist Y.foot := ((hsub.map _).cons_cons _).cons_cons _
  refine ⟨o', L, hdel, h4, r2, ?_⟩
  refine ⟨upd S Y.mb o', R, L, T, h1.base hO fun b x hx hb => hk b x hx fun e => h3 b (e ▸ List.mem_cons_of_mem _ (List.mem_cons_self ..)) hb, ⟨hk _ _ h2.cells fun e => hn1.1 (e ▸ List.mem_cons_self ..), ⟨o', upd_same m1 _, m3⟩, fun q hq => by
    obtain ⟨s1, s2⟩ := h2.run q (hsub.subset hq)
    exact ⟨hk _ _ s1 fun e => hn2.1 (e ▸ List.mem_map.2 ⟨q, hsub.subset hq, rfl⟩), s2⟩, h2.apart.sublist hfs⟩, fun b hb => h3 b (hfs.subset hb), fun _ hx => hx, fun b x hb => ?_⟩
  rcases List.mem_cons.1 hb with e | hb
  · obtain ⟨rfl, rfl⟩ := Prod.mk.inj e
    exact ⟨hk _ _ r1 fun e => hn2.1 (e ▸ hpm), h3 _ (List.mem_cons_of_mem _ (List.mem_cons_of_mem _ hpm)), hpf⟩
  · obtain ⟨q1, q2, q3⟩ := h5 b x hb
    exact ⟨hk b x q1 fun e => q3 (e ▸ List.mem_cons_of_mem _ (List.mem_cons_self ..)), q2, fun hx => q3 (hfs.subset hx)⟩
end
end Go.Proofs.YtkhnkidggcjfeaaGreatDoor
end
section
namespace Go.Proofs.YtkhnkidggcjfeaaGreatDoor
open Go.RowKit
open Go.ChangeMaps (setBlock)
section
variable {w0 w w' : World} {S S' S1 : Blocks} {R L L' L1 M L0 : List Rw} {v c n d : Nat} {X X' X1 X2 : VX} {T T' Tc T1 : Tr} {Y Y' : Tab} {K K' : Blocks} {fv : Value} {acc : List Int}
theorem VT.foundYes (h : VT w0 K L0 v X Y w) {i : Int} {p : Pr} (hp : look Y.runs i = some p) : (Instr.lookup 111 (.map (some Y.mb)) (.int .i64 i) true).run Tryz.prog w = .ok (.tuple #[.pointer (some ⟨p.b, 0, none⟩), .bool true]) w := by
  have := h.found i
  rw [hp] at this
  exact this
theorem VT.foundNo (h : VT w0 K L0 v X Y w) {i : Int} (hp : look Y.runs i = none) : (Instr.lookup 111 (.map (some Y.mb)) (.int .i64 i) true).run Tryz.prog w = .ok (.tuple #[.pointer none, .bool false]) w := by
  have := h.found i
  rw [hp] at this
  exact this
theorem exit_no (h : VT w0 K L0 v X Y w) (i : Int) (hp : look Y.runs i = none) : Calls Tryz.prog 25 #[.pointer (some ⟨Y.tb, 0, none⟩), .int .i64 i] w fun e w' => e = .returned (.int .i64 8) ∧ VT w0 K L0 v X Y w' := by
  obtain ⟨t0, t1, t2⟩ := h.tab
  have hl := h.foundNo hp
  have H := Lib.hid h
  clear h hp
  go_enter Tryz.func25, Tryz.ntmps25
  go_wp2_with fail
  go_ret
  exact ⟨rfl, H.out⟩
theorem PcI.shape (hO : Own ⟨w0, S⟩ w L) (h : PcI L fv acc) : ∃ a c, fv = .slice a acc.length c := by
  rcases h with ⟨rfl, rfl⟩ | h
  · exact ⟨none, 0, rfl⟩
  · obtain ⟨a, c, h1, _⟩ := Own.sized (h := (show Own _ w (⟨3, 1, fv, acc.length, acc.map (Value.int .i64)⟩ :: []) from hO.only h))
    exact ⟨a, c, h1⟩
theorem PcI.at {a : Option Addr} {cp : Nat} (h : PcI L0 (.slice a acc.length cp) acc) (hV : VT w0 K L0 v X Y w) (i : Nat) (hi : i < acc.length) : ∃ g o, a = some ⟨g, o, none⟩ ∧ w.cell? ⟨g, o + i, none⟩ = some (.int .i64 acc[i]) := by
  rcases h with ⟨_, h2⟩ | h
  · rw [h2] at hi; exact absurd hi (Nat.not_lt_zero _)
  · obtain ⟨_, hr⟩ := hV.row h
    have hr' : Own _ w (⟨3, 1, .slice a acc.length cp, acc.length, acc.map (Value.int .i64)⟩ :: []) := hr
    obtain ⟨g5, cp5, e5, _⟩ := Own.form (h := hr') (by omega)
    injection e5 with e6 e7 e8
    subst e6
    refine ⟨g5, 0, rfl, ?_⟩
    rw [Nat.zero_add, Own.cell (h := hr') i (by omega), List.getElem?_map, List.getElem?_eq_getElem hi]; rfl
set_option maxHeartbeats 2000000 in
theorem exit_yes {N : Nat} (h : VT w0 K L0 v X Y w) (hd : (Y.runs.map (·.1)).Nodup) (ho : HeldOk N X) (hN : N ≤ 1000000) (i : Int) {p : Pr} (hp : look Y.runs i = some p) (hpl : p.maps.length ≤ 1000000) :
    Calls Tryz.prog 25 #[.pointer (some ⟨Y.tb, 0, none⟩), .int .i64 i] w fun e w' => e = .returned (.int .i64 0) ∧ VT w0 K L0 v (letAll X p.maps) { Y with runs := del Y.runs i } w' := by
  obtain ⟨t0, t1, t2⟩ := h.tab
  have hl := h.foundYes hp
  obtain ⟨o', L1, hdel, hs1, hpc, h2⟩ := h.delRun hd hp
  obtain ⟨fa, fc, hfv⟩ : ∃ a c, p.mv = .slice a p.maps.length c := by
    obtain ⟨S, R, L, T, k1, _, _, k4, _⟩ := h2
    exact PcI.shape k1.ownL (hpc.imp id (k4 _))
  rw [hfv] at hpc
  obtain ⟨w2, hw2⟩ : ∃ w2, w2 = setBlock w Y.mb o' := ⟨_, rfl⟩
  rw [← hw2] at hdel h2
  have c2 : w2.cell? ⟨p.b, 2, none⟩ = some (.slice fa p.maps.length fc) := by
    rw [cell_at (h2.cellK (List.mem_cons_self ..)) 2, ← hfv]; rfl
  have hlt := lets_any h2 ho hN fa p.maps fc hpl fun w' X' k j hj => PcI.at hpc k j hj
  have HP := Lib.hid (fun w' (k : VT w0 ((p.b, .cells (prCells i p) 93) :: K) L1 v (letAll X p.maps) { Y with runs := del Y.runs i } w') => (show VT w0 K L0 v (letAll X p.maps) { Y with runs := del Y.runs i } w' from (k.rows hs1).blocks fun b x hb => List.mem_cons_of_mem _ hb))
  clear h h2 hpc hfv hp hw2
  go_enter Tryz.func25, Tryz.ntmps25
  go_wp2_with fail
  refine hlt.mono ?_
  rintro e w3 ⟨rfl, h3⟩
  have H3 := Lib.hid (HP.out w3 h3)
  clear h3 HP hlt
  go_wp2_with fail
  go_ret
  exact ⟨rfl, H3.out⟩
end
end Go.Proofs.YtkhnkidggcjfeaaGreatDoor
end
