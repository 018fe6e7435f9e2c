/- Texts one behind the other, each in a section of its own: what calls make of memory, step by step. -/
import Derived.Test.YtkhnkidggcjfeaaGreatDoorPackNeedHits3
import Derived.Shelf.Strings.Builder1
import Derived.Shelf.Strings.Builder2
import Derived.Shelf.Strings.OnBuilder
import Derived.Shelf.Small.Bits
import Derived.Shelf.Small.Wraps
import Derived.Shelf.Strconv.Itoa0
import Derived.Shelf.Strings.Search1
import Derived.Shelf.Strings.Search2
import Derived.Shelf.Strings.Search3
import Derived.Shelf.Strings.Count
import Derived.Shelf.LaysM
import Derived.Shelf.Strings.Shaped
import Derived.Shelf.Strings.Prefix
import Derived.Shelf.Strings.Split
import Derived.Shelf.Bits.Mul64
import Derived.Shelf.Unicode.DecodeSlow
import Derived.Shelf.Unicode.DecodeAny
import Derived.Shelf.Slices.Turned
import Derived.Ground.Names2Prog
import Derived.Shelf.Slices.Clone
import Derived.Shelf.Slices.SearchI
import Derived.Shelf.Slices.Delete
import Derived.Shelf.Slices.Cells
import Derived.Shelf.Slices.In.SortNone
import Derived.Shelf.Slices.Empties
import Derived.Ground.SlgmProg
import Derived.Shelf.SortM.Plain
import Derived.Test.YtkhnkidggcjfeaaGreatDoorProg
import Derived.Deep.RegionHeld3
set_option linter.unusedVariables false
set_option linter.unusedSimpArgs false
set_option maxRecDepth 100000
section
namespace Go.Proofs
open Go.Shelf
def Tryz.lays156_ren : Go.Shelf.Ren := ⟨fun | 156 => 226 | 165 => 238 | 166 => 239 | 169 => 240 | 240 => 247 | 241 => 248 | 276 => 251 | 277 => 149 | n => n, fun | 31 => 32 | 9 => 9 | 3 => 3 | 4 => 4 | 0 => 0 | 20 => 20 | 72 => 311 | 76 => 315 | 70 => 309 | 37 => 38 | 75 => 314 | 127 => 323 | 164 => 325 | 5 => 5 | 80 => 317 | n => n, fun | n => n⟩
theorem Tryz.lays156 : Go.Proofs.Lays.n156 Tryz.prog Tryz.lays156_ren := {
  mixed := by kernel_rfl
  f156 := Tryz.func226.trans (congrArg some (by kernel_rfl))
  f165 := Tryz.func238.trans (congrArg some (by kernel_rfl))
  f166 := Tryz.func239.trans (congrArg some (by kernel_rfl))
  f169 := Tryz.func240.trans (congrArg some (by kernel_rfl))
  f240 := Tryz.func247.trans (congrArg some (by kernel_rfl))
  f241 := Tryz.func248.trans (congrArg some (by kernel_rfl))
  f276 := Tryz.func251.trans (congrArg some (by kernel_rfl))
  f277 := Tryz.func149.trans (congrArg some (by kernel_rfl))
  t0 := Tryz.underlying0
  a0 := Tryz.isAgg0
  z0 := Tryz.sizeOf0
  v0 := Tryz.zeroValue0
  t3 := Tryz.underlying3
  a3 := Tryz.isAgg3
  z3 := Tryz.sizeOf3
  v3 := Tryz.zeroValue3
  t4 := Tryz.underlying4
  a4 := Tryz.isAgg4
  z4 := Tryz.sizeOf4
  v4 := Tryz.zeroValue4
  t9 := Tryz.underlying9
  a9 := Tryz.isAgg9
  z9 := Tryz.sizeOf9
  v9 := Tryz.zeroValue9
  t20 := Tryz.underlying20
  a20 := Tryz.isAgg20
  z20 := Tryz.sizeOf20
  v20 := Tryz.zeroValue20
  t31 := Tryz.underlying32
  a31 := Tryz.isAgg32
  z31 := Tryz.sizeOf32
  v31 := Tryz.zeroValue32
  t37 := Tryz.underlying38
  a37 := Tryz.isAgg38
  z37 := Tryz.sizeOf38
  v37 := Tryz.zeroValue38
  t70 := Tryz.underlying309
  a70 := Tryz.isAgg309
  z70 := Tryz.sizeOf309
  v70 := Tryz.zeroValue309
  t72 := Tryz.underlying311
  a72 := Tryz.isAgg311
  z72 := Tryz.sizeOf311
  v72 := Tryz.zeroValue311
  t75 := Tryz.underlying314
  a75 := Tryz.isAgg314
  z75 := Tryz.sizeOf314
  v75 := Tryz.zeroValue314
  t76 := Tryz.underlying315
  a76 := Tryz.isAgg315
  z76 := Tryz.sizeOf315
  v76 := Tryz.zeroValue315
  t127 := Tryz.underlying323
  a127 := Tryz.isAgg323
  z127 := Tryz.sizeOf323
  v127 := Tryz.zeroValue323
  t164 := Tryz.underlying325
  a164 := Tryz.isAgg325
  z164 := Tryz.sizeOf325
  v164 := Tryz.zeroValue325 }
theorem Tryz.Builder_Extra_156 : Builder.Extra Tryz.prog Tryz.lays156_ren := {
  sizeBuilder := by kernel_rfl
  liesBuilder := by kernel_rfl
  t5 := Tryz.underlying5
  a5 := Tryz.isAgg5
  z5 := Tryz.sizeOf5
  v5 := Tryz.zeroValue5
  infoByte := by kernel_rfl
  cellsByte := by kernel_rfl
  sizeByte := by kernel_rfl
  neB5 := by decide }
open Go.RowKit in
theorem Tryz.strings_Join_none (a : Option Addr) (c : Nat) (sep : ByteArray) (w : World) :
    Calls Tryz.prog 226 #[.slice a 0 c, .string sep] w fun e w' => e = .returned (.string ⟨#[]⟩) ∧ w' = w := Any.strings_Join_none Tryz.lays156 Tryz.Builder_Extra_156 a c sep w
open Go.RowKit in
theorem Tryz.strings_Join (bk o c : Nat) (xs : List ByteArray) (sep : ByteArray) (w : World) (hcells : ∀ (j : Nat) x, xs[j]? = some x → w.cell? ⟨bk, o + j, none⟩ = some (.string x)) (hbk : bk < w.heap.size) (hN : xs.length ≤ 140737488355328) (hcap : xs.length ≤ c) (hlen : (Lib.join (xs.map (·.data.toList)) sep.data.toList).length ≤ 140737488355328) :
    Calls Tryz.prog 226 #[.slice (some ⟨bk, o, none⟩) xs.length c, .string sep] w fun e w' => e = .returned (.string ⟨(Lib.join (xs.map (·.data.toList)) sep.data.toList).toArray⟩) ∧ Below w.heap.size w w' := Any.strings_Join Tryz.lays156 Tryz.Builder_Extra_156 bk o c xs sep w hcells hbk hN hcap hlen
def Tryz.lays103_ren : Go.Shelf.Ren := ⟨fun | 103 => 114 | 210 => 176 | 206 => 214 | n => n, fun | 9 => 9 | 4 => 4 | 24 => 198 | 3 => 3 | n => n, fun | n => n⟩
theorem Tryz.lays103 : Go.Proofs.Lays.n103 Tryz.prog Tryz.lays103_ren := {
  mixed := by kernel_rfl
  f103 := Tryz.func114.trans (congrArg some (by kernel_rfl))
  f206 := Tryz.func214.trans (congrArg some (by kernel_rfl))
  f210 := Tryz.func176.trans (congrArg some (by kernel_rfl))
  t3 := Tryz.underlying3
  a3 := Tryz.isAgg3
  z3 := Tryz.sizeOf3
  v3 := Tryz.zeroValue3
  t4 := Tryz.underlying4
  a4 := Tryz.isAgg4
  z4 := Tryz.sizeOf4
  v4 := Tryz.zeroValue4
  t9 := Tryz.underlying9
  a9 := Tryz.isAgg9
  z9 := Tryz.sizeOf9
  v9 := Tryz.zeroValue9
  t24 := Tryz.underlying198
  a24 := Tryz.isAgg198
  z24 := Tryz.sizeOf198
  v24 := Tryz.zeroValue198 }
open Go.RowKit in
theorem Tryz.strings_CutPrefix (s p : ByteArray) (w : World) :
    Calls Tryz.prog 114 #[.string s, .string p] w fun e w' => e = .returned (.tuple #[.string ⟨(Lib.trimPrefix s.data.toList p.data.toList).toArray⟩, .bool (Lib.hasPrefix s.data.toList p.data.toList)]) ∧ w' = w := Any.strings_CutPrefix Tryz.lays103 s p w
def Tryz.lays146_ren : Go.Shelf.Ren := ⟨fun | 146 => 115 | 221 => 177 | 268 => 215 | 138 => 216 | 143 => 217 | 195 => 232 | 197 => 233 | 218 => 234 | 219 => 235 | 260 => 241 | 217 => 242 | 225 => 243 | 224 => 244 | 267 => 245 | 266 => 249 | 314 => 250 | n => n, fun | 9 => 9 | 31 => 32 | 3 => 3 | 4 => 4 | 0 => 0 | 105 => 297 | 21 => 21 | 5 => 5 | 46 => 195 | 119 => 319 | 139 => 322 | 138 => 321 | 146 => 277 | 51 => 226 | n => n, fun | 1 => 0 | 3 => 1 | 4 => 2 | n => n⟩
theorem Tryz.lays146 : Go.Proofs.Lays.n146 Tryz.prog Tryz.lays146_ren := {
  mixed := by kernel_rfl
  f138 := Tryz.func216.trans (congrArg some (by kernel_rfl))
  f143 := Tryz.func217.trans (congrArg some (by kernel_rfl))
  f146 := Tryz.func115.trans (congrArg some (by kernel_rfl))
  f195 := Tryz.func232.trans (congrArg some (by kernel_rfl))
  f197 := Tryz.func233.trans (congrArg some (by kernel_rfl))
  f217 := Tryz.func242.trans (congrArg some (by kernel_rfl))
  f218 := Tryz.func234.trans (congrArg some (by kernel_rfl))
  f219 := Tryz.func235.trans (congrArg some (by kernel_rfl))
  f221 := Tryz.func177.trans (congrArg some (by kernel_rfl))
  f224 := Tryz.func244.trans (congrArg some (by kernel_rfl))
  f225 := Tryz.func243.trans (congrArg some (by kernel_rfl))
  f260 := Tryz.func241.trans (congrArg some (by kernel_rfl))
  f266 := Tryz.func249.trans (congrArg some (by kernel_rfl))
  f267 := Tryz.func245.trans (congrArg some (by kernel_rfl))
  f268 := Tryz.func215.trans (congrArg some (by kernel_rfl))
  f314 := Tryz.func250.trans (congrArg some (by kernel_rfl))
  t0 := Tryz.underlying0
  a0 := Tryz.isAgg0
  z0 := Tryz.sizeOf0
  v0 := Tryz.zeroValue0
  t3 := Tryz.underlying3
  a3 := Tryz.isAgg3
  z3 := Tryz.sizeOf3
  v3 := Tryz.zeroValue3
  t4 := Tryz.underlying4
  a4 := Tryz.isAgg4
  z4 := Tryz.sizeOf4
  v4 := Tryz.zeroValue4
  t5 := Tryz.underlying5
  a5 := Tryz.isAgg5
  z5 := Tryz.sizeOf5
  v5 := Tryz.zeroValue5
  t9 := Tryz.underlying9
  a9 := Tryz.isAgg9
  z9 := Tryz.sizeOf9
  v9 := Tryz.zeroValue9
  t21 := Tryz.underlying21
  a21 := Tryz.isAgg21
  z21 := Tryz.sizeOf21
  v21 := Tryz.zeroValue21
  t31 := Tryz.underlying32
  a31 := Tryz.isAgg32
  z31 := Tryz.sizeOf32
  v31 := Tryz.zeroValue32
  t46 := Tryz.underlying195
  a46 := Tryz.isAgg195
  z46 := Tryz.sizeOf195
  v46 := Tryz.zeroValue195
  t51 := Tryz.underlying226
  a51 := Tryz.isAgg226
  z51 := Tryz.sizeOf226
  v51 := Tryz.zeroValue226
  t105 := Tryz.underlying297
  a105 := Tryz.isAgg297
  z105 := Tryz.sizeOf297
  v105 := Tryz.zeroValue297
  t119 := Tryz.underlying319
  a119 := Tryz.isAgg319
  z119 := Tryz.sizeOf319
  t138 := Tryz.underlying321
  a138 := Tryz.isAgg321
  z138 := Tryz.sizeOf321
  v138 := Tryz.zeroValue321
  t139 := Tryz.underlying322
  a139 := Tryz.isAgg322
  z139 := Tryz.sizeOf322
  v139 := Tryz.zeroValue322
  t146 := Tryz.underlying277
  a146 := Tryz.isAgg277
  z146 := Tryz.sizeOf277
  v146 := Tryz.zeroValue277
  g1 := by kernel_rfl
  g3 := by kernel_rfl
  g4 := by kernel_rfl }
open Go.RowKit Go.Lib in
theorem Tryz.strings_Split (s sep : ByteArray) (m : Int) (w : World) (hs : s.size < 4294967281) (hm : w.cell? ⟨0, 0, none⟩ = some (.int .i64 m)) (h1 : 1 ≤ sep.size) :
    Calls Tryz.prog 115 #[.string s, .string sep] w fun e w' =>
      e = .returned (.slice (some ⟨w.heap.size, 0, none⟩) (Lib.countB s sep + 1) (Lib.countB s sep + 1)) ∧ w' = w.alloc (.cells ((Lib.splitB sep 0 (Lib.countB s sep) s).map Value.string).toArray 9) := Any.strings_Split Tryz.lays146 (by kernel_rfl) s sep m w hs hm h1
def Tryz.lays107_ren : Go.Shelf.Ren := ⟨fun | 107 => 68 | 108 => 112 | n => n, fun | 28 => 84 | 3 => 3 | 4 => 4 | 0 => 0 | n => n, fun | n => n⟩
theorem Tryz.lays107 : Go.Proofs.Lays.n107 Tryz.prog Tryz.lays107_ren := {
  mixed := by kernel_rfl
  f107 := Tryz.func68.trans (congrArg some (by kernel_rfl))
  f108 := Tryz.func112.trans (congrArg some (by kernel_rfl))
  t0 := Tryz.underlying0
  a0 := Tryz.isAgg0
  z0 := Tryz.sizeOf0
  v0 := Tryz.zeroValue0
  t3 := Tryz.underlying3
  a3 := Tryz.isAgg3
  z3 := Tryz.sizeOf3
  v3 := Tryz.zeroValue3
  t4 := Tryz.underlying4
  a4 := Tryz.isAgg4
  z4 := Tryz.sizeOf4
  v4 := Tryz.zeroValue4
  t28 := Tryz.underlying84
  a28 := Tryz.isAgg84
  z28 := Tryz.sizeOf84
  v28 := Tryz.zeroValue84 }
open Go.Lib in
theorem Tryz.slices_Contains_int (b off n c : Nat) (zs : List Int) (x : Int) (w : World) (hz : n ≤ zs.length) (hbig : n ≤ 9223372036854775807) (hc : ∀ j, j < zs.length → w.cell? ⟨b, off + j, none⟩ = some (.int .i64 (zs.getD j 0))) :
    Calls Tryz.prog 68 #[.slice (some ⟨b, off, none⟩) n c, .int .i64 x] w fun e w' => e = .returned (.bool ((zs.take n).contains x)) ∧ w' = w := Any.slices_Contains_int Tryz.lays107 b off n c zs x w hz hbig hc
def Tryz.lays110_ren : Go.Shelf.Ren := ⟨fun | 110 => 87 | 109 => 136 | n => n, fun | 31 => 32 | 9 => 9 | 4 => 4 | 3 => 3 | 0 => 0 | n => n, fun | n => n⟩
theorem Tryz.lays110 : Go.Proofs.Lays.n110 Tryz.prog Tryz.lays110_ren := {
  mixed := by kernel_rfl
  f109 := Tryz.func136.trans (congrArg some (by kernel_rfl))
  f110 := Tryz.func87.trans (congrArg some (by kernel_rfl))
  t0 := Tryz.underlying0
  a0 := Tryz.isAgg0
  z0 := Tryz.sizeOf0
  v0 := Tryz.zeroValue0
  t3 := Tryz.underlying3
  a3 := Tryz.isAgg3
  z3 := Tryz.sizeOf3
  v3 := Tryz.zeroValue3
  t4 := Tryz.underlying4
  a4 := Tryz.isAgg4
  z4 := Tryz.sizeOf4
  v4 := Tryz.zeroValue4
  t9 := Tryz.underlying9
  a9 := Tryz.isAgg9
  z9 := Tryz.sizeOf9
  v9 := Tryz.zeroValue9
  t31 := Tryz.underlying32
  a31 := Tryz.isAgg32
  z31 := Tryz.sizeOf32
  v31 := Tryz.zeroValue32 }
open Go.Lib in
theorem Tryz.slices_Contains_string (b off n c : Nat) (zs : List ByteArray) (x : ByteArray) (w : World) (hz : n ≤ zs.length) (hbig : n ≤ 9223372036854775807) (hc : ∀ j, j < zs.length → w.cell? ⟨b, off + j, none⟩ = some (.string (zs.getD j ByteArray.empty))) :
    Calls Tryz.prog 87 #[.slice (some ⟨b, off, none⟩) n c, .string x] w fun e w' => e = .returned (.bool (Lib.containsS (zs.take n) x)) ∧ w' = w := Any.slices_Contains_string Tryz.lays110 b off n c zs x w hz hbig hc
open Go.Lib in
theorem Tryz.slices_Contains_string_empty (a : Option Addr) (c : Nat) (x : ByteArray) (w : World) :
    Calls Tryz.prog 87 #[.slice a 0 c, .string x] w fun e w' => e = .returned (.bool false) ∧ w' = w := Any.slices_Contains_string_empty Tryz.lays110 a c x w
def Tryz.laysNm224_ren : Go.Shelf.Ren := ⟨fun | 24 => 90 | n => n, fun | 24 => 32 | 9 => 9 | 3 => 3 | 4 => 4 | 0 => 0 | n => n, fun | n => n⟩
theorem Tryz.laysNm224 : Go.Proofs.Lays2.n24 Tryz.prog Tryz.laysNm224_ren := {
  mixed := by kernel_rfl
  f24 := Tryz.func90.trans (congrArg some (by kernel_rfl))
  t0 := Tryz.underlying0
  a0 := Tryz.isAgg0
  z0 := Tryz.sizeOf0
  v0 := Tryz.zeroValue0
  t3 := Tryz.underlying3
  a3 := Tryz.isAgg3
  z3 := Tryz.sizeOf3
  v3 := Tryz.zeroValue3
  t4 := Tryz.underlying4
  a4 := Tryz.isAgg4
  z4 := Tryz.sizeOf4
  v4 := Tryz.zeroValue4
  t9 := Tryz.underlying9
  a9 := Tryz.isAgg9
  z9 := Tryz.sizeOf9
  v9 := Tryz.zeroValue9
  t24 := Tryz.underlying32
  a24 := Tryz.isAgg32
  z24 := Tryz.sizeOf32
  v24 := Tryz.zeroValue32
  i9 := by kernel_rfl }
open Go.RowKit Go.Lib Go.Sort in
theorem Tryz.slices_Delete_string (blk off cap i j : Nat) (zs : List (List UInt8)) (w : World) (hH : Holds encStr w blk off zs.toArray) (hcap : zs.length ≤ cap) (hm : cap ≤ 9223372036854775807) (hij : i ≤ j) (hj : j ≤ zs.length) :
    Calls Tryz.prog 90 #[.slice (some ⟨blk, off, none⟩) zs.length cap, .int .i64 i, .int .i64 j] w fun e w' => e = .returned (.slice (some ⟨blk, off, none⟩) (zs.length - (j - i)) cap) ∧ ∃ q, w' = putRow encStr (Sort.ahead w q) blk off (zs.take i ++ zs.drop j ++ List.replicate (j - i) []).toArray := Any.slices_Delete_string Tryz.laysNm224 blk off cap i j zs w hH hcap hm hij hj
def Tryz.lays189_ren : Go.Shelf.Ren := ⟨fun | 189 => 67 | 125 => 111 | 257 => 110 | 128 => 165 | 129 => 166 | 294 => 156 | 295 => 157 | 296 => 158 | 297 => 159 | 298 => 160 | 299 => 161 | 216 => 162 | 300 => 163 | 301 => 164 | 328 => 204 | 329 => 205 | 330 => 206 | 331 => 207 | 332 => 208 | 215 => 209 | 343 => 230 | n => n, fun | 28 => 84 | 3 => 3 | 46 => 195 | 0 => 0 | 51 => 226 | 53 => 106 | 4 => 4 | 183 => 245 | 182 => 244 | 131 => 96 | 5 => 5 | 9 => 9 | 218 => 283 | 222 => 287 | 228 => 303 | 229 => 304 | n => n, fun | n => n⟩
theorem Tryz.lays189 : Go.Proofs.Lays.n189 Tryz.prog Tryz.lays189_ren := {
  mixed := by kernel_rfl
  f125 := Tryz.func111.trans (congrArg some (by kernel_rfl))
  f128 := Tryz.func165.trans (congrArg some (by kernel_rfl))
  f129 := Tryz.func166.trans (congrArg some (by kernel_rfl))
  f189 := Tryz.func67.trans (congrArg some (by kernel_rfl))
  f215 := Tryz.func209.trans (congrArg some (by kernel_rfl))
  f216 := Tryz.func162.trans (congrArg some (by kernel_rfl))
  f257 := Tryz.func110.trans (congrArg some (by kernel_rfl))
  f294 := Tryz.func156.trans (congrArg some (by kernel_rfl))
  f295 := Tryz.func157.trans (congrArg some (by kernel_rfl))
  f296 := Tryz.func158.trans (congrArg some (by kernel_rfl))
  f297 := Tryz.func159.trans (congrArg some (by kernel_rfl))
  f298 := Tryz.func160.trans (congrArg some (by kernel_rfl))
  f299 := Tryz.func161.trans (congrArg some (by kernel_rfl))
  f300 := Tryz.func163.trans (congrArg some (by kernel_rfl))
  f301 := Tryz.func164.trans (congrArg some (by kernel_rfl))
  f328 := Tryz.func204.trans (congrArg some (by kernel_rfl))
  f329 := Tryz.func205.trans (congrArg some (by kernel_rfl))
  f330 := Tryz.func206.trans (congrArg some (by kernel_rfl))
  f331 := Tryz.func207.trans (congrArg some (by kernel_rfl))
  f332 := Tryz.func208.trans (congrArg some (by kernel_rfl))
  f343 := Tryz.func230.trans (congrArg some (by kernel_rfl))
  t0 := Tryz.underlying0
  a0 := Tryz.isAgg0
  z0 := Tryz.sizeOf0
  v0 := Tryz.zeroValue0
  t3 := Tryz.underlying3
  a3 := Tryz.isAgg3
  z3 := Tryz.sizeOf3
  v3 := Tryz.zeroValue3
  t4 := Tryz.underlying4
  a4 := Tryz.isAgg4
  z4 := Tryz.sizeOf4
  v4 := Tryz.zeroValue4
  t5 := Tryz.underlying5
  a5 := Tryz.isAgg5
  z5 := Tryz.sizeOf5
  v5 := Tryz.zeroValue5
  t9 := Tryz.underlying9
  a9 := Tryz.isAgg9
  z9 := Tryz.sizeOf9
  v9 := Tryz.zeroValue9
  t28 := Tryz.underlying84
  a28 := Tryz.isAgg84
  z28 := Tryz.sizeOf84
  v28 := Tryz.zeroValue84
  t46 := Tryz.underlying195
  a46 := Tryz.isAgg195
  z46 := Tryz.sizeOf195
  v46 := Tryz.zeroValue195
  t51 := Tryz.underlying226
  a51 := Tryz.isAgg226
  z51 := Tryz.sizeOf226
  v51 := Tryz.zeroValue226
  t53 := Tryz.underlying106
  a53 := Tryz.isAgg106
  z53 := Tryz.sizeOf106
  v53 := Tryz.zeroValue106
  t131 := Tryz.underlying96
  a131 := Tryz.isAgg96
  z131 := Tryz.sizeOf96
  v131 := Tryz.zeroValue96
  t182 := Tryz.underlying244
  a182 := Tryz.isAgg244
  z182 := Tryz.sizeOf244
  v182 := Tryz.zeroValue244
  t183 := Tryz.underlying245
  a183 := Tryz.isAgg245
  z183 := Tryz.sizeOf245
  v183 := Tryz.zeroValue245
  t218 := Tryz.underlying283
  a218 := Tryz.isAgg283
  z218 := Tryz.sizeOf283
  v218 := Tryz.zeroValue283
  t222 := Tryz.underlying287
  a222 := Tryz.isAgg287
  z222 := Tryz.sizeOf287
  v222 := Tryz.zeroValue287
  t228 := Tryz.underlying303
  a228 := Tryz.isAgg303
  z228 := Tryz.sizeOf303
  v228 := Tryz.zeroValue303
  t229 := Tryz.underlying304
  a229 := Tryz.isAgg304
  z229 := Tryz.sizeOf304
  v229 := Tryz.zeroValue304 }
open Go.RowKit Go.Sort in
theorem Tryz.slices_Sort_int_none (p : Option Addr) (cap : Nat) (w : World) :
    Calls Tryz.prog 67 #[.slice p 0 cap] w fun e w' => e = .returned (.tuple #[]) ∧ w' = w := Any.slices_Sort_int_none Tryz.lays189 p cap w
def Tryz.laysSlM5_f67_ren : Go.Shelf.Ren := ⟨fun | 5 => 67 | 8 => 111 | 7 => 110 | 19 => 165 | 20 => 166 | 10 => 156 | 11 => 157 | 12 => 158 | 13 => 159 | 14 => 160 | 15 => 161 | 16 => 162 | 17 => 163 | 18 => 164 | 30 => 204 | 31 => 205 | 32 => 206 | 33 => 207 | 34 => 208 | 35 => 209 | 40 => 230 | n => n, fun | 23 => 84 | 25 => 3 | 3 => 3 | 32 => 195 | 22 => 84 | 0 => 0 | 44 => 226 | 46 => 106 | 4 => 4 | 36 => 245 | 35 => 244 | 41 => 96 | 5 => 5 | 9 => 9 | 53 => 283 | 57 => 287 | 63 => 303 | 64 => 304 | n => n, fun | n => n⟩
theorem Tryz.laysSlM5_f67 : Go.Proofs.SlLaysM.n5 Tryz.prog Tryz.laysSlM5_f67_ren := {
  mixed := by kernel_rfl
  f5 := ⟨Tryz.f67.name, by decide, Tryz.func67.trans (congrArg some (by kernel_rfl))⟩
  f7 := ⟨Tryz.f110.name, by decide, Tryz.func110.trans (congrArg some (by kernel_rfl))⟩
  f8 := Tryz.func111.trans (congrArg some (by kernel_rfl))
  f10 := ⟨Tryz.f156.name, by decide, Tryz.func156.trans (congrArg some (by kernel_rfl))⟩
  f11 := ⟨Tryz.f157.name, by decide, Tryz.func157.trans (congrArg some (by kernel_rfl))⟩
  f12 := ⟨Tryz.f158.name, by decide, Tryz.func158.trans (congrArg some (by kernel_rfl))⟩
  f13 := ⟨Tryz.f159.name, by decide, Tryz.func159.trans (congrArg some (by kernel_rfl))⟩
  f14 := ⟨Tryz.f160.name, by decide, Tryz.func160.trans (congrArg some (by kernel_rfl))⟩
  f15 := ⟨Tryz.f161.name, by decide, Tryz.func161.trans (congrArg some (by kernel_rfl))⟩
  f16 := ⟨Tryz.f162.name, by decide, Tryz.func162.trans (congrArg some (by kernel_rfl))⟩
  f17 := ⟨Tryz.f163.name, by decide, Tryz.func163.trans (congrArg some (by kernel_rfl))⟩
  f18 := ⟨Tryz.f164.name, by decide, Tryz.func164.trans (congrArg some (by kernel_rfl))⟩
  f19 := Tryz.func165.trans (congrArg some (by kernel_rfl))
  f20 := Tryz.func166.trans (congrArg some (by kernel_rfl))
  f30 := ⟨Tryz.f204.name, by decide, Tryz.func204.trans (congrArg some (by kernel_rfl))⟩
  f31 := Tryz.func205.trans (congrArg some (by kernel_rfl))
  f32 := Tryz.func206.trans (congrArg some (by kernel_rfl))
  f33 := ⟨Tryz.f207.name, by decide, Tryz.func207.trans (congrArg some (by kernel_rfl))⟩
  f34 := ⟨Tryz.f208.name, by decide, Tryz.func208.trans (congrArg some (by kernel_rfl))⟩
  f35 := ⟨Tryz.f209.name, by decide, Tryz.func209.trans (congrArg some (by kernel_rfl))⟩
  f40 := ⟨Tryz.f230.name, by decide, Tryz.func230.trans (congrArg some (by kernel_rfl))⟩
  t0 := Tryz.underlying0
  a0 := Tryz.isAgg0
  z0 := Tryz.sizeOf0
  v0 := Tryz.zeroValue0
  t3 := Tryz.underlying3
  a3 := Tryz.isAgg3
  z3 := Tryz.sizeOf3
  v3 := Tryz.zeroValue3
  t4 := Tryz.underlying4
  a4 := Tryz.isAgg4
  z4 := Tryz.sizeOf4
  v4 := Tryz.zeroValue4
  t5 := Tryz.underlying5
  a5 := Tryz.isAgg5
  z5 := Tryz.sizeOf5
  v5 := Tryz.zeroValue5
  t9 := Tryz.underlying9
  a9 := Tryz.isAgg9
  z9 := Tryz.sizeOf9
  v9 := Tryz.zeroValue9
  t22 := Tryz.underlying84
  a22 := Tryz.isAgg84
  z22 := Tryz.sizeOf84
  v22 := Tryz.zeroValue84
  t23 := Tryz.underlying84
  a23 := Tryz.isAgg84
  z23 := Tryz.sizeOf84
  v23 := Tryz.zeroValue84
  t25 := Tryz.underlying3
  a25 := Tryz.isAgg3
  z25 := Tryz.sizeOf3
  v25 := Tryz.zeroValue3
  t32 := Tryz.underlying195
  a32 := Tryz.isAgg195
  z32 := Tryz.sizeOf195
  v32 := Tryz.zeroValue195
  t35 := Tryz.underlying244
  a35 := Tryz.isAgg244
  z35 := Tryz.sizeOf244
  v35 := Tryz.zeroValue244
  t36 := Tryz.underlying245
  a36 := Tryz.isAgg245
  z36 := Tryz.sizeOf245
  v36 := Tryz.zeroValue245
  t41 := Tryz.underlying96
  a41 := Tryz.isAgg96
  z41 := Tryz.sizeOf96
  v41 := Tryz.zeroValue96
  t44 := Tryz.underlying226
  a44 := Tryz.isAgg226
  z44 := Tryz.sizeOf226
  v44 := Tryz.zeroValue226
  t46 := Tryz.underlying106
  a46 := Tryz.isAgg106
  z46 := Tryz.sizeOf106
  v46 := Tryz.zeroValue106
  t53 := Tryz.underlying283
  a53 := Tryz.isAgg283
  z53 := Tryz.sizeOf283
  v53 := Tryz.zeroValue283
  t57 := Tryz.underlying287
  a57 := Tryz.isAgg287
  z57 := Tryz.sizeOf287
  v57 := Tryz.zeroValue287
  t63 := Tryz.underlying303
  a63 := Tryz.isAgg303
  z63 := Tryz.sizeOf303
  v63 := Tryz.zeroValue303
  t64 := Tryz.underlying304
  a64 := Tryz.isAgg304
  z64 := Tryz.sizeOf304
  v64 := Tryz.zeroValue304 }
open Go.Sort Go.RowKit in
theorem Tryz.slices_Sort_int (blk off cap : Nat) (zs : List Int) (w : World) (hH : Holds (Value.int .i64) w blk off zs.toArray) (hblk : blk < w.heap.size) (hsz : zs.length < 4611686018427387904) :
    Calls Tryz.prog 67 #[.slice (some ⟨blk, off, none⟩) zs.length cap] w fun e w' =>
      e = .returned (.tuple #[]) ∧ ∃ n os, w' = grow (putRow (Value.int .i64) (Sort.ahead w n) blk off (zs.mergeSort fun x y => decide (x ≤ y)).toArray) os := AnyM.slices_Sort_int Tryz.laysSlM5_f67 blk off cap zs w hH hblk hsz
end Go.Proofs
end
section
namespace Go.Proofs.YtkhnkidggcjfeaaGreatDoor
open Go.RowKit
abbrev strs (ls : List (List UInt8)) : List Value := ls.map fun l => Value.string (toB l)
abbrev rowSs (v : Value) (ls : List (List UInt8)) : Rw := ⟨9, 1, v, ls.length, strs ls⟩
theorem strs_length (ls : List (List UInt8)) : (strs ls).length = ls.length := by simp [strs]
theorem strs_at (ls : List (List UInt8)) (j : Nat) (h : j < ls.length) : (strs ls)[j]? = some (.string (toB ls[j])) := by simp [strs, h]
def Mx (w : World) : Prop := 0 < w.heap.size ∧ ∃ m : Int, w.cell? ⟨0, 0, none⟩ = some (.int .i64 m)
theorem Mx.later {w w' : World} (h : Mx w) (hb : Below w.heap.size w w') : Mx w' := by
  obtain ⟨h1, m, h2⟩ := h
  exact ⟨Nat.lt_of_lt_of_le h1 hb.size, m, by rw [hb.cell (p := ⟨0, 0, none⟩) h1]; exact h2⟩
theorem split_slash (s : ByteArray) (w : World) (hs : s.size ≤ 1000000) (hm : Mx w) : Calls Tryz.prog 115 #[.string s, .string ⟨#[47]⟩] w fun e w' =>
    e = .returned (.slice (some ⟨w.heap.size, 0, none⟩) (partsL s.data.toList).length (partsL s.data.toList).length) ∧ w' = w.alloc (.cells (strs (partsL s.data.toList)).toArray 9) := by
  obtain ⟨_, m, h2⟩ := hm
  have hsz : (⟨#[47]⟩ : ByteArray).size = 1 := rfl
  refine (Tryz.strings_Split s ⟨#[47]⟩ m w (by omega) h2 (by rw [hsz]; exact Nat.le_refl _)).mono ?_
  rintro e w' ⟨rfl, rfl⟩
  have h3 := splitB_parts s ⟨#[47]⟩ rfl
  have h4 := Lib.splitB_all ⟨#[47]⟩ (by rw [hsz]; exact Nat.le_refl _) 0 (Lib.countB s ⟨#[47]⟩) s rfl
  rw [h3] at h4
  rw [List.length_map] at h4
  rw [h3, ← h4, List.map_map]
  exact ⟨rfl, rfl⟩
theorem cut_pre (s p : ByteArray) (w : World) : Calls Tryz.prog 114 #[.string s, .string p] w fun e w' => e = .returned (.tuple #[.string ⟨(Lib.trimPrefix s.data.toList p.data.toList).toArray⟩, .bool (Lib.hasPrefix s.data.toList p.data.toList)]) ∧ w = w' :=
  (Tryz.strings_CutPrefix s p w).mono fun _ _ ⟨h1, h2⟩ => ⟨h1, h2.symm⟩
theorem name_list (l : List UInt8) (w : World) (hl : l.length ≤ 1000000) : Calls Tryz.prog 116 #[.string (toB l)] w fun e w' => e = .returned (.bool (nameL l)) ∧ Below w.heap.size w w' :=
  name_any (toB l) w (by rw [toB_size]; unfold maxLen; omega)
theorem Own.str {W0 : Base} {w : World} {g c : Nat} {ls : List (List UInt8)} {L : List Rw} (h : Own W0 w (rowSs (.slice (some ⟨g, 0, none⟩) ls.length c) ls :: L)) (k : Nat) (hk : k < ls.length) : w.cell? ⟨g, k, none⟩ = some (.string (toB ls[k])) := by
  rw [h.cell k (by omega)]; exact strs_at ls k hk
def SplitPost (w : World) (l : List UInt8) (e : Ending) (w' : World) : Prop := ∃ v, e = .returned (.tuple #[v, .bool (okP l)]) ∧ Own w w' [rowSs v (namesL l)]
theorem splitPost_no {w w' : World} {l : List UInt8} (h : okP l = false) (hb : Below w.heap.size w w') : SplitPost w l (.returned (.tuple #[.slice none 0 0, .bool false])) w' := by
  refine ⟨_, by rw [h], ?_⟩
  have h1 : namesL l = [] := by
    unfold namesL; rw [h]; split <;> rfl
  rw [h1]
  exact (Own.of_below hb).nil _ _
theorem okP_no_pre {l : List UInt8} (h1 : l ≠ [47]) (h : Lib.hasPrefix l [47] = false ∨ 40 < l.length) : okP l = false := by
  unfold okP
  rw [decide_eq_false h1]
  rcases h with h | h
  · have h2 : ¬ l.head? = some 47 := by
      intro e
      cases l with
      | nil => cases e
      | cons c l => simp at e; subst e; simp [Lib.hasPrefix, List.isPrefixOf] at h
    rw [decide_eq_false h2]; simp
  · rw [decide_eq_false (show ¬ l.length ≤ 40 by omega)]; simp
theorem okP_pre {l : List UInt8} (h1 : l ≠ [47]) (h2 : Lib.hasPrefix l [47] = true) (h3 : l.length ≤ 40) : okP l = (decide ((partsL l.tail).length ≤ 5) && (partsL l.tail).all nameL) ∧ Lib.trimPrefix l [47] = l.tail := by
  have h4 : l.head? = some 47 := by
    cases l with
    | nil => simp [Lib.hasPrefix, List.isPrefixOf] at h2
    | cons c l => simp [Lib.hasPrefix, List.isPrefixOf] at h2; simp [h2]
  refine ⟨?_, ?_⟩
  · unfold okP; rw [decide_eq_false h1, decide_eq_true h3, decide_eq_true h4]; simp
  · unfold Lib.trimPrefix; rw [h2]; simp
theorem all_take_succ {α : Type} (f : α → Bool) (ls : List α) (k : Nat) (h : k < ls.length) : (ls.take (k + 1)).all f = ((ls.take k).all f && f ls[k]) := by
  rw [List.take_succ_eq_append_getElem h, List.all_append, List.all_cons, List.all_nil, Bool.and_true]
theorem all_at_no {α : Type} (f : α → Bool) (ls : List α) (k : Nat) (h : k < ls.length) (hf : f ls[k] = false) : ls.all f = false := by
  rw [List.all_eq_false]
  exact ⟨ls[k], List.getElem_mem _, by rw [hf]; decide⟩
set_option maxHeartbeats 2000000 in
theorem split_any (s : ByteArray) (w : World) (hs : s.size ≤ maxLen) (hm : Mx w) : Calls Tryz.prog 72 #[.string s] w (SplitPost w s.data.toList) := by
  unfold maxLen at hs
  have hz : s.data.toList.length = s.size := (Lib.size_eq s).symm
  by_cases h1 : s.toList = [47]
  · have h1' : (s.toList == [47]) = true := beq_iff_eq.2 h1
    have hl : s.data.toList = [47] := by rw [← Lib.toList_data]; exact h1
    have HP := Lib.hid (show SplitPost w s.data.toList (.returned (.tuple #[.slice none 0 0, .bool true])) w from by
      rw [hl]; exact ⟨_, rfl, (Own.start w).nil _ _⟩)
    clear hl hz
    go_enter Tryz.func72, Tryz.ntmps72
    go_wp2
    go_ret2
    exact HP.out
  have h1' : (s.toList == [47]) = false := beq_eq_false_iff_ne.2 h1
  have h1l : s.data.toList ≠ [47] := by rw [← Lib.toList_data]; exact h1
  by_cases h2 : Lib.hasPrefix s.data.toList [47] = true
  · by_cases h3 : s.size ≤ 40
    · obtain ⟨h4, h5⟩ := okP_pre h1l h2 (by omega)
      have hlen := partsL_length s.data.toList.tail
      have htl : s.data.toList.tail.length ≤ 40 := by rw [List.length_tail]; omega
      have hnm : namesL s.data.toList = if okP s.data.toList then partsL s.data.toList.tail else [] := by unfold namesL; rw [if_neg h1l]
      have hsp := split_slash (toB s.data.toList.tail)
      have hts : (toB s.data.toList.tail).size ≤ 1000000 := by rw [toB_size]; omega
      have hsp : ∀ w, Mx w → Calls Tryz.prog 115 #[.string ⟨(Lib.trimPrefix s.data.toList [47]).toArray⟩, .string ⟨#[47]⟩] w fun e w' => e = .returned (.slice (some ⟨w.heap.size, 0, none⟩) (partsL s.data.toList.tail).length (partsL s.data.toList.tail).length) ∧ w' = w.alloc (.cells (strs (partsL s.data.toList.tail)).toArray 9) := by
        intro w hm; rw [h5]; exact hsp w hts hm
      have HP := Lib.hid h4
      have HQ := Lib.hid hnm
      have HL := Lib.hid (show ∀ p ∈ partsL s.data.toList.tail, p.length ≤ 40 from fun p hp => Nat.le_trans (parts_le _ p hp) htl)
      have hlen40 : (partsL s.data.toList.tail).length ≤ 41 := by omega
      clear hnm hlen h4 h5 hts h1l hz htl
      generalize s.data.toList.tail = rest at *
      generalize hls : partsL rest = ls at *
      clear hls
      by_cases h6 : ls.length ≤ 5
      · go_enter Tryz.func72, Tryz.ntmps72
        go_wp2_with (first
          | (go_at_call 114; refine (cut_pre _ _ _).mono ?_; rintro e w' ⟨rfl, rfl⟩)
          | (go_at_call 115; refine (hsp _ hm).mono ?_; rintro e w' ⟨rfl, rfl⟩))
        go_loopw [30] (fun i wr => ∃ k : Nat, k ≤ ls.length ∧ i = .int .i64 k ∧ Own w wr [rowSs (.slice (some ⟨w.heap.size, 0, none⟩) ls.length ls.length) ls] ∧ Hid ((ls.take k).all nameL = true)) (fun i _ => ls.length - (intOf i).toNat)
        case atStart => exact ⟨0, Nat.zero_le _, rfl, by have := (Own.start w).made 9 1 (strs ls).toArray ls.length (by simp [strs]) (by unfold maxLen; omega); simpa using this, rfl⟩
        case round =>
          obtain ⟨k, hk, rfl, hO, HA⟩ := hrel
          by_cases hlt : k < ls.length
          · have hc := hO.str k hlt
            have HS := Lib.hid (all_take_succ nameL ls k hlt)
            have HF := Lib.hid (all_at_no nameL ls k hlt)
            have hl1 := HL.out ls[k] (List.getElem_mem _)
            have HC := name_list ls[k]
            generalize ls[k] = l at *
            by_cases hn : nameL l = true
            · go_wp2_with (go_at_call 116; refine (HC _ (by omega)).mono ?_; rintro e w' ⟨rfl, hb⟩)
              have hO2 := hO.later hb
              go_roundw
              case rel => exact ⟨k + 1, by omega, by go_num, hO2, by show (ls.take (k + 1)).all nameL = true; rw [HS.out, HA.out, hn]; rfl⟩
              case measure => simp [intOf]; omega
            · have hn' : nameL l = false := by simpa using hn
              clear hn
              go_wp2_with (go_at_call 116; refine (HC _ (by omega)).mono ?_; rintro e w' ⟨rfl, hb⟩)
              have hO2 := hO.later hb
              go_ret2
              exact splitPost_no (by rw [HP.out, HF.out hn']; simp) hO2.below
          · have HT := Lib.hid (show ls.take k = ls from List.take_of_length_le (by omega))
            have HE := Lib.hid (show okP s.data.toList = true from by rw [HP.out, ← HT.out, HA.out, HT.out, decide_eq_true h6]; rfl)
            have HG := Lib.hid (show SplitPost w s.data.toList (.returned (.tuple #[.slice (some ⟨w.heap.size, 0, none⟩) ls.length ls.length, .bool true])) wr from ⟨_, by rw [HE.out], by rw [HQ.out, HE.out]; exact hO⟩)
            clear HT HA HP HQ HL hO
            go_wp2
            go_ret2
            exact HG.out
      · have HN := Lib.hid (show okP s.data.toList = false from by rw [HP.out, decide_eq_false h6]; rfl)
        go_enter Tryz.func72, Tryz.ntmps72
        go_wp2_with (first
          | (go_at_call 114; refine (cut_pre _ _ _).mono ?_; rintro e w' ⟨rfl, rfl⟩)
          | (go_at_call 115; refine (hsp _ hm).mono ?_; rintro e w' ⟨rfl, rfl⟩))
        go_ret2
        exact splitPost_no HN.out ((Below.refl _ _).alloc (Nat.le_refl _) _)
    · have HN := Lib.hid (okP_no_pre h1l (.inr (by omega)))
      clear h1l hz
      go_enter Tryz.func72, Tryz.ntmps72
      go_wp2_with (go_at_call 114; refine (cut_pre _ _ _).mono ?_; rintro e w' ⟨rfl, rfl⟩)
      go_ret2
      exact splitPost_no HN.out (Below.refl _ _)
  · have h2' : Lib.hasPrefix s.data.toList [47] = false := by simpa using h2
    have HN := Lib.hid (okP_no_pre h1l (.inl h2'))
    clear h1l hz
    go_enter Tryz.func72, Tryz.ntmps72
    go_wp2_with (go_at_call 114; refine (cut_pre _ _ _).mono ?_; rintro e w' ⟨rfl, rfl⟩)
    go_ret2
    exact splitPost_no HN.out (Below.refl _ _)
end Go.Proofs.YtkhnkidggcjfeaaGreatDoor
end
section
namespace Go.Proofs.YtkhnkidggcjfeaaGreatDoor
open Go.RowKit
def Sts (w : World) (v : Value) (ls : List (List UInt8)) : Prop :=
  ∃ a c, v = .slice a ls.length c ∧ ls.length ≤ c ∧ c ≤ maxLen ∧ (0 < ls.length → ∃ b o, a = some ⟨b, o, none⟩ ∧ b < w.heap.size ∧ ∀ (j : Nat) (h : j < ls.length), w.cell? ⟨b, o + j, none⟩ = some (.string (toB ls[j])))
theorem Sts.later {w w' : World} {v : Value} {ls : List (List UInt8)} (h : Sts w v ls) (hb : Below w.heap.size w w') : Sts w' v ls := by
  obtain ⟨a, c, h1, h2, h3, h4⟩ := h
  refine ⟨a, c, h1, h2, h3, fun hn => ?_⟩
  obtain ⟨b, o, h5, h6, h7⟩ := h4 hn
  exact ⟨b, o, h5, Nat.lt_of_lt_of_le h6 hb.size, fun j hj => by rw [hb.cell (p := ⟨b, o + j, none⟩) h6]; exact h7 j hj⟩
theorem Own.sts {W0 : Base} {w : World} {v : Value} {ls : List (List UInt8)} {L : List Rw} (h : Own W0 w (rowSs v ls :: L)) : Sts w v ls := by
  by_cases hn : 0 < ls.length
  · obtain ⟨g, cap, h1, h2, h3⟩ := h.form hn
    obtain ⟨a, c, h4, h5, h6⟩ := h.sized
    rw [h1] at h4
    injection h4 with e1 e2 e3
    subst h1
    refine ⟨_, cap, rfl, by omega, by omega, fun _ => ⟨g, 0, rfl, by omega, fun j hj => ?_⟩⟩
    rw [Nat.zero_add]; exact h.str j hj
  · obtain ⟨a, c, h4, h5, h6⟩ := h.sized
    exact ⟨a, c, h4, h5, h6, fun h => absurd h hn⟩
theorem Sts.take {w : World} {a : Option Addr} {n c : Nat} {ls : List (List UInt8)} (h : Sts w (.slice a n c) ls) (k : Nat) (hk : k ≤ ls.length) : Sts w (.slice a k c) (ls.take k) := by
  obtain ⟨a', c', h1, h2, h3, h4⟩ := h
  injection h1 with e1 e2 e3
  subst e1 e3
  have hl : (ls.take k).length = k := by rw [List.length_take]; omega
  refine ⟨a, c, by rw [hl], by omega, h3, fun hn => ?_⟩
  obtain ⟨b, o, h5, h6, h7⟩ := h4 (by omega)
  refine ⟨b, o, h5, h6, fun j hj => ?_⟩
  rw [h7 j (by omega), List.getElem_take]
def joinL (ls : List (List UInt8)) : List UInt8 := 47 :: Lib.join ls [47]
theorem join_len (ls : List (List UInt8)) (m : Nat) (h : ∀ l ∈ ls, l.length ≤ m) : (Lib.join ls [47]).length ≤ ls.length * (m + 1) := by
  cases ls with
  | nil => simp [Lib.join_nil]
  | cons x r =>
    rw [Lib.join_cons]
    have h1 := h x (List.mem_cons_self ..)
    have h2 : (Lib.joinTail [47] r).length ≤ r.length * (m + 1) := by
      have hr : ∀ l ∈ r, l.length ≤ m := fun l hl => h l (List.mem_cons_of_mem _ hl)
      clear h h1
      induction r with
      | nil => simp [Lib.joinTail]
      | cons y r ih =>
        have := ih (fun l hl => hr l (List.mem_cons_of_mem _ hl))
        have hy := hr y (List.mem_cons_self ..)
        simp only [Lib.joinTail, List.map_cons, List.flatten_cons, List.length_append, List.length_singleton] at this ⊢
        rw [List.length_cons, Nat.add_mul]; omega
    rw [List.length_append, List.length_cons, Nat.add_mul]; omega
theorem join_size (ls : List (List UInt8)) (m : Nat) (h : ∀ l ∈ ls, l.length ≤ m) (hm : m ≤ 1000) (hn : ls.length ≤ 1000) : (Lib.join ls [47]).length ≤ 1001000 := by
  have h1 := join_len ls m h
  have h2 : ls.length * (m + 1) ≤ 1000 * 1001 := Nat.mul_le_mul hn (by omega)
  omega
theorem strings_join (v : Value) (ls : List (List UInt8)) (w : World) (h : Sts w v ls) (hs : (Lib.join ls [47]).length ≤ 1001000) (hn : ls.length ≤ 1000) :
    Calls Tryz.prog 226 #[v, .string ⟨#[47]⟩] w fun e w' => e = .returned (.string (toB (Lib.join ls [47]))) ∧ Below w.heap.size w w' := by
  obtain ⟨a, c, h1, h2, h3, h4⟩ := h
  subst h1
  cases ls with
  | nil =>
    refine (Tryz.strings_Join_none a c ⟨#[47]⟩ w).mono ?_
    rintro e w' ⟨rfl, rfl⟩
    exact ⟨rfl, Below.refl _ _⟩
  | cons x r =>
    obtain ⟨b, o, h5, h6, h7⟩ := h4 (by simp)
    subst h5
    have hm : ((x :: r).map toB).map (·.data.toList) = x :: r := by
      rw [List.map_map]; exact List.map_id' _
    have hc := Tryz.strings_Join b o c ((x :: r).map toB) ⟨#[47]⟩ w (fun j y hj => by
      rw [List.getElem?_map] at hj
      obtain ⟨z, hz, rfl⟩ := Option.map_eq_some_iff.1 hj
      obtain ⟨hj2, rfl⟩ := List.getElem?_eq_some_iff.1 hz
      exact h7 j hj2) h6 (by rw [List.length_map]; omega) (by rw [List.length_map]; exact h2) (by rw [hm]; show (Lib.join (x :: r) [47]).length ≤ _; omega)
    rw [List.length_map, hm] at hc
    exact hc
theorem join_any (v : Value) (ls : List (List UInt8)) (w : World) (h : Sts w v ls) (hs : (Lib.join ls [47]).length ≤ 1001000) (hn : ls.length ≤ 1000) :
    Calls Tryz.prog 195 #[v] w fun e w' => e = .returned (.string (toB (joinL ls))) ∧ Below w.heap.size w w' := by
  have hj := strings_join v ls w h hs hn
  have HE := Lib.hid (show (⟨#[47]⟩ : ByteArray) ++ toB (Lib.join ls [47]) = toB (joinL ls) from by
    apply ByteArray.ext; simp [joinL])
  obtain ⟨a, c, h1, h2, h3, h4⟩ := h
  subst h1
  clear h4 h2 h3
  generalize hX : Lib.join ls [47] = X at *
  clear hX
  go_enter Tryz.func195, Tryz.ntmps195
  go_wp2_with (go_at_call 226; refine hj.mono ?_; rintro e w' ⟨rfl, hb⟩)
  go_ret
  exact ⟨by rw [HE.out]; rfl, hb⟩
theorem names_bounds (l : List UInt8) : (namesL l).length ≤ 5 ∧ ∀ n ∈ namesL l, nameL n = true := by
  unfold namesL
  split
  · simp
  · rename_i h1
    split
    · rename_i h2
      unfold okP at h2
      rw [decide_eq_false h1] at h2
      simp only [Bool.false_or, Bool.and_eq_true, decide_eq_true_eq, List.all_eq_true] at h2
      exact ⟨h2.1.2, h2.2⟩
    · simp
theorem name_len {n : List UInt8} (h : nameL n = true) : 1 ≤ n.length ∧ n.length ≤ 12 := by
  unfold nameL at h
  simp only [Bool.and_eq_true, decide_eq_true_eq] at h
  exact ⟨h.1.1, h.1.2.1⟩
theorem parent_no (s : ByteArray) (w : World) (hs : s.size ≤ maxLen) (hm : Mx w) (h0 : namesL s.data.toList = []) : Calls Tryz.prog 137 #[.string s] w fun e w' => e = .returned (.tuple #[.string ⟨#[]⟩, .string ⟨#[]⟩, .bool false]) ∧ Below w.heap.size w w' := by
  have hc := split_any s w hs hm
  generalize s.data.toList = l at *
  have H0 := Lib.hid h0
  clear h0
  go_enter Tryz.func137, Tryz.ntmps137
  go_wp2_with fail
  refine hc.mono ?_
  rintro e w' ⟨v, rfl, hO⟩
  obtain ⟨a, c, rfl, _, _⟩ := hO.sized
  rw [H0.out]
  have hb := hO.below
  clear hO
  go_wp2
  exact bodyPost_ret (v := .tuple #[.string ⟨#[]⟩, .string ⟨#[]⟩, .bool false]) (by simp [results, Tryz.results137, go_sem]) rfl ⟨rfl, hb⟩
theorem parent_yes (s : ByteArray) (w : World) (hs : s.size ≤ maxLen) (hm : Mx w) (ini : List (List UInt8)) (z : List UInt8) (h0 : namesL s.data.toList = ini ++ [z]) : Calls Tryz.prog 137 #[.string s] w fun e w' => e = .returned (.tuple #[.string (toB (joinL ini)), .string (toB z), .bool true]) ∧ Below w.heap.size w w' := by
  have hc := split_any s w hs hm
  generalize s.data.toList = l at *
  obtain ⟨h5, h6⟩ := names_bounds l
  rw [h0] at h5 h6
  rw [List.length_append, List.length_singleton] at h5
  have hj := join_size ini 12 (fun n hn => (name_len (h6 n (List.mem_append_left _ hn))).2) (by omega) (by omega)
  have H0 := Lib.hid h0
  have HLN := Lib.hid (show (ini ++ [z]).length = ini.length + 1 by simp)
  clear h0 h6
  go_enter Tryz.func137, Tryz.ntmps137
  go_wp2_with fail
  refine hc.mono ?_
  rintro e w1 ⟨v, rfl, hO⟩
  rw [H0.out] at hO
  obtain ⟨g, cap, hv, _, _⟩ := hO.form (by rw [HLN.out]; omega)
  obtain ⟨a, c, hv2, hc1, hc2⟩ := hO.sized
  subst hv
  injection hv2 with e1 e2 e3
  subst e3 e1
  unfold maxLen at hc2
  have hld := hO.str ini.length (by rw [HLN.out]; omega)
  rw [show (ini ++ [z])[ini.length]'(by rw [HLN.out]; omega) = z by simp] at hld
  have HO := Lib.hid hO
  have hst := fun w' (h : Own w w' [rowSs (.slice (some ⟨g, 0, none⟩) (ini ++ [z]).length cap) (ini ++ [z])]) => (h.sts).take ini.length (by rw [HLN.out]; omega)
  rw [show (ini ++ [z]).take ini.length = ini by simp] at hst
  have HS := Lib.hid hst
  have hz := fun w' (h : Own w w' [rowSs (.slice (some ⟨g, 0, none⟩) (ini ++ [z]).length cap) (ini ++ [z])]) => h.str ini.length (by rw [HLN.out]; omega)
  rw [show (ini ++ [z])[ini.length]'(by rw [HLN.out]; omega) = z by simp] at hz
  have HZ := Lib.hid hz
  rw [HLN.out] at hc1 HO HS HZ ⊢
  clear hO hst hz e2
  go_wp2_with fail
  have q1 : (0 : Int) ≤ (ini.length : Int) := by omega
  have q2 : (ini.length : Int) ≤ (cap : Int) := by omega
  have q3 : (ini.length : Int) < (ini.length : Int) + 1 := by omega
  have q4 : ini.length < ini.length + 1 := by omega
  have q5 : ini.length ≤ cap := by omega
  go_region_held3 (fun w' => w'.cell? ⟨g, ini.length, none⟩ = some (.string (toB z))) (first | assumption | go_keep) (first
    | (go_at_call 195; refine (join_any _ ini _ (HS.out _ (by first | exact HO.out.drew | exact HO.out)) hj (by omega)).mono ?_; rintro e w2 ⟨rfl, hb2⟩; have HO2 := Lib.hid (show Own w w2 [rowSs (.slice (some ⟨g, 0, none⟩) (ini.length + 1) cap) (ini ++ [z])] from (by first | exact HO.out.drew.later hb2 | exact HO.out.later hb2)); have z2 := HZ.out w2 HO2.out))
  all_goals go_wp2_with fail
  all_goals exact bodyPost_ret (v := .tuple #[.string (toB (joinL ini)), .string (toB z), .bool true]) (by simp [results, Tryz.results137, go_sem]) rfl ⟨rfl, HO2.out.below⟩
end Go.Proofs.YtkhnkidggcjfeaaGreatDoor
end
section
namespace Go.Proofs.YtkhnkidggcjfeaaGreatDoor
open Go.RowKit
open Go.ChangeMaps (setBlock)
structure Nd where
  b : Nat
  k : Option Nat
  kids : List (ByteArray × Int)
  dv : Value
  data : List Int
  places : Int
def Nd.foot (n : Nd) : List Nat := n.b :: n.k.toList
def nodeCells (n : Nd) : Array Value := #[.map n.k, n.dv, .int .i64 n.places]
def kidsV (kids : List (ByteArray × Int)) : List (ByteArray × Value) := kids.map fun p => (p.1, .int .i64 p.2)
abbrev KI (i : Int) : Value := .int .i64 i
abbrev KS (s : ByteArray) : Value := .string s
theorem kindsI : Kinds Tryz.prog 3 KI := kinds_int Tryz.underlying3
theorem kindsS : Kinds Tryz.prog 9 KS := kinds_string Tryz.underlying9
structure NodeIn (h : Nat → Obj → Prop) (D : Value → List Int → Prop) (n : Nd) : Prop where
  cells : h n.b (.cells (nodeCells n) 133)
  kid : ∀ k, n.k = some k → ∃ o, h k o ∧ MapO KS o (kidsV n.kids)
  file : n.k = none → n.kids = []
  dat : D n.dv n.data
  form : ∃ a c, n.dv = .slice a n.data.length c
structure Tr where
  bm : Nat
  quota : Int
  next : Int
  nodes : List (Int × Nd)
def nodesV (T : Tr) : List (Int × Value) := T.nodes.map fun p => (p.1, .pointer (some ⟨p.2.b, 0, none⟩))
def treeCells (T : Tr) : Array Value := #[.int .i64 T.quota, .int .i64 T.next, .map (some T.bm)]
structure TreeIn (h : Nat → Obj → Prop) (D : Value → List Int → Prop) (t : Nat) (T : Tr) : Prop where
  cells : h t (.cells (treeCells T) 82)
  map : ∃ o, h T.bm o ∧ MapO KI o (nodesV T)
  node : ∀ p ∈ T.nodes, NodeIn h D p.2
def Tr.foot (T : Tr) : List Nat := T.bm :: T.nodes.flatMap fun p => p.2.foot
theorem NodeIn.mono {h h' : Nat → Obj → Prop} {D D' : Value → List Int → Prop} {n : Nd} (H : NodeIn h D n) (hh : ∀ b o, b ∈ n.foot → h b o → h' b o) (hD : ∀ v zs, D v zs → D' v zs) : NodeIn h' D' n :=
  ⟨hh _ _ (List.mem_cons_self ..) H.cells, fun k hk => by
    obtain ⟨o, h1, h2⟩ := H.kid k hk
    exact ⟨o, hh _ _ (List.mem_cons_of_mem _ (by rw [hk]; simp)) h1, h2⟩, H.file, hD _ _ H.dat, H.form⟩
theorem TreeIn.mono {h h' : Nat → Obj → Prop} {D D' : Value → List Int → Prop} {t : Nat} {T : Tr} (H : TreeIn h D t T) (hh : ∀ b o, b ∈ t :: T.foot → h b o → h' b o) (hD : ∀ v zs, D v zs → D' v zs) : TreeIn h' D' t T := by
  obtain ⟨o, h1, h2⟩ := H.map
  refine ⟨hh _ _ (List.mem_cons_self ..) H.cells, ⟨o, hh _ _ (List.mem_cons_of_mem _ (List.mem_cons_self ..)) h1, h2⟩, fun p hp => (H.node p hp).mono (fun b o hb => hh b o ?_) hD⟩
  exact List.mem_cons_of_mem _ (List.mem_cons_of_mem _ (List.mem_flatMap.2 ⟨p, hp, hb⟩))
abbrev inW (w : World) : Nat → Obj → Prop := fun b o => w.heap[b]? = some o
abbrev inS (S : Blocks) : Nat → Obj → Prop := fun b o => (b, o) ∈ S
abbrev anyD : Value → List Int → Prop := fun _ _ => True
theorem TreeIn.later {w w' : World} {D : Value → List Int → Prop} {t : Nat} {T : Tr} (H : TreeIn (inW w) D t T) (hb : Below w.heap.size w w') : TreeIn (inW w') D t T :=
  H.mono (fun b o _ ho => (hb.block b (lt_of_heap ho)).trans ho) (fun _ _ h => h)
theorem TreeIn.inWorld {w0 w : World} {S : Blocks} {L : List Rw} {D : Value → List Int → Prop} {t : Nat} {T : Tr} (H : TreeIn (inS S) D t T) (hO : Own ⟨w0, S⟩ w L) : TreeIn (inW w) D t T :=
  H.mono (fun b o _ ho => hO.at ho) (fun _ _ h => h)
/-! ### Look-ups -/
theorem look_map {α β γ : Type} [DecidableEq α] (f : β → γ) (m : List (α × β)) (a : α) : look (m.map fun p => (p.1, f p.2)) a = (look m a).map f := by
  induction m with
  | nil => rfl
  | cons p r ih =>
    simp only [List.map_cons, look]
    split
    · rfl
    · exact ih
theorem look_mem {α β : Type} [DecidableEq α] {m : List (α × β)} {a : α} {v : β} (h : look m a = some v) : (a, v) ∈ m := by
  induction m with
  | nil => cases h
  | cons p r ih =>
    unfold look at h
    split at h
    · rename_i e; injection h with h; subst e h; exact List.mem_cons_self ..
    · exact List.mem_cons_of_mem _ (ih h)
theorem zeroNode (w : World) : (zeroValue 130).run Tryz.prog w = .ok (.pointer none) w := by kernel_rfl
theorem zeroInt (w : World) : (zeroValue 3).run Tryz.prog w = .ok (.int .i64 0) w := by kernel_rfl
def ptrOf (n : Option Nd) : Value := match n with
  | some n => .pointer (some ⟨n.b, 0, none⟩)
  | none => .pointer none
theorem TreeIn.look {w : World} {D : Value → List Int → Prop} {t : Nat} {T : Tr} (H : TreeIn (inW w) D t T) (i : Int) :
    (Instr.lookup 80 (.map (some T.bm)) (.int .i64 i) false).run Tryz.prog w = .ok (ptrOf (Go.Proofs.YtkhnkidggcjfeaaGreatDoor.look T.nodes i)) w := by
  obtain ⟨o, h1, h2⟩ := H.map
  have := MapO.lookup kindsI Tryz.underlying80 (zeroNode w) h2 h1 i false
  have e := look_map (fun n : Nd => Value.pointer (some ⟨n.b, 0, none⟩)) T.nodes i
  rw [show nodesV T = T.nodes.map fun p => (p.1, (fun n : Nd => Value.pointer (some ⟨n.b, 0, none⟩)) p.2) from rfl, e] at this
  rw [this]
  cases Go.Proofs.YtkhnkidggcjfeaaGreatDoor.look T.nodes i <;> rfl
theorem NodeIn.look {w : World} {D : Value → List Int → Prop} {n : Nd} (H : NodeIn (inW w) D n) {k : Nat} (hk : n.k = some k) (s : ByteArray) :
    (Instr.lookup 29 (.map (some k)) (.string s) true).run Tryz.prog w = .ok (.tuple #[.int .i64 ((Go.Proofs.YtkhnkidggcjfeaaGreatDoor.look n.kids s).getD 0), .bool (Go.Proofs.YtkhnkidggcjfeaaGreatDoor.look n.kids s).isSome]) w := by
  obtain ⟨o, h1, h2⟩ := H.kid k hk
  have := MapO.lookup kindsS Tryz.underlying29 (zeroInt w) h2 h1 s true
  have e := look_map (fun i : Int => Value.int .i64 i) n.kids s
  rw [show kidsV n.kids = n.kids.map fun p => (p.1, (fun i : Int => Value.int .i64 i) p.2) from rfl, e] at this
  rw [this]
  cases Go.Proofs.YtkhnkidggcjfeaaGreatDoor.look n.kids s <;> rfl
theorem lookup_nil (w : World) (s : ByteArray) : (Instr.lookup 29 (.map none) (.string s) true).run Tryz.prog w = .ok (.tuple #[.int .i64 0, .bool false]) w := by
  have h1 : (Instr.checkKey true 10000 9 (.string s)).run Tryz.prog w = .ok () w := kindsS.check true s w
  have h2 : (Instr.findKey 9 (.string s) []).run Tryz.prog w = .ok none w := MapKept.run_findKey (d := .string) Tryz.underlying9 rfl
  simp [Instr.lookup, run_underlying Tryz.underlying29, Sem.run_bind, Result.andThen, h1, h2, zeroInt]
def walkT (T : Tr) (i : Int) : List (List UInt8) → Option Int
  | [] => some i
  | n :: r => match look T.nodes i with
    | none => none
    | some nd => match look nd.kids (toB n) with
      | none => none
      | some j => walkT T j r
structure Good (T : Tr) : Prop where
  keys : (T.nodes.map (·.1)).Nodup
  root : ∃ n k, look T.nodes 1 = some n ∧ n.k = some k
  kids : ∀ p ∈ T.nodes, ∀ q ∈ p.2.kids, ∃ n, look T.nodes q.2 = some n
  low : ∀ p ∈ T.nodes, 1 ≤ p.1 ∧ (p.1 = 1 ∨ p.1 < T.next)
def findT (T : Tr) (l : List UInt8) : Option Int := if okP l then walkT T 1 (namesL l) else none
theorem walkT_snoc (T : Tr) (i : Int) (a : List (List UInt8)) (n : List UInt8) : walkT T i (a ++ [n]) = match walkT T i a with
    | none => none
    | some j => match look T.nodes j with
      | none => none
      | some nd => look nd.kids (toB n) := by
  induction a generalizing i with
  | nil =>
    simp only [List.nil_append, walkT]
    cases look T.nodes i with
    | none => rfl
    | some nd => cases h : look nd.kids (toB n) <;> simp [walkT, h]
  | cons x r ih =>
    simp only [List.cons_append, walkT]
    cases h1 : look T.nodes i with
    | none => rfl
    | some nd =>
      cases h2 : look nd.kids (toB x) with
      | none => simp only [h2]
      | some j => simp only [h2]; exact ih j
theorem walkT_there {T : Tr} (G : Good T) {i j : Int} (hi : ∃ n, look T.nodes i = some n) {a : List (List UInt8)} (h : walkT T i a = some j) : ∃ n, look T.nodes j = some n := by
  induction a generalizing i with
  | nil => injection h with h; subst h; exact hi
  | cons x r ih =>
    obtain ⟨n, hn⟩ := hi
    simp only [walkT, hn] at h
    cases hx : look n.kids (toB x) with
    | none => rw [hx] at h; cases h
    | some m =>
      rw [hx] at h
      exact ih (G.kids _ (look_mem hn) _ (look_mem hx)) h
end Go.Proofs.YtkhnkidggcjfeaaGreatDoor
end
section
namespace Go.Proofs.YtkhnkidggcjfeaaGreatDoor
open Go.RowKit
open Go.ChangeMaps (setBlock)
theorem NodeIn.at0 {w : World} {D : Value → List Int → Prop} {n : Nd} (H : NodeIn (inW w) D n) : w.cell? ⟨n.b, 0, none⟩ = some (.map n.k) ∧ w.cell? ⟨n.b, 1, none⟩ = some n.dv ∧ w.cell? ⟨n.b, 2, none⟩ = some (.int .i64 n.places) := by
  have h := H.cells
  exact ⟨by rw [cell_at h 0]; rfl, by rw [cell_at h 1]; rfl, by rw [cell_at h 2]; rfl⟩
theorem TreeIn.at0 {w : World} {D : Value → List Int → Prop} {t : Nat} {T : Tr} (H : TreeIn (inW w) D t T) : w.cell? ⟨t, 0, none⟩ = some (.int .i64 T.quota) ∧ w.cell? ⟨t, 1, none⟩ = some (.int .i64 T.next) ∧ w.cell? ⟨t, 2, none⟩ = some (.map (some T.bm)) := by
  have h := H.cells
  exact ⟨by rw [cell_at h 0]; rfl, by rw [cell_at h 1]; rfl, by rw [cell_at h 2]; rfl⟩
theorem neq_map (k : Option Nat) (w : World) : (binOp BinOp.neq 29 (.map k) (.map none)).run Tryz.prog w = .ok (.bool k.isSome) w := by
  cases k <;> kernel_rfl
theorem dir_cell {w : World} {b : Nat} {k : Option Nat} (hc : w.cell? ⟨b, 0, none⟩ = some (.map k)) : Calls Tryz.prog 96 #[.pointer (some ⟨b, 0, none⟩)] w fun e w' => e = .returned (.bool k.isSome) ∧ w = w' := by
  cases k with
  | none =>
    have hq := neq_map none w
    go_enter Tryz.func96, Tryz.ntmps96
    go_wp2
    go_ret
    exact ⟨rfl, rfl⟩
  | some k =>
    have hq := neq_map (some k) w
    go_enter Tryz.func96, Tryz.ntmps96
    go_wp2
    go_ret
    exact ⟨rfl, rfl⟩
theorem dir_any {w : World} {D : Value → List Int → Prop} {n : Nd} (H : NodeIn (inW w) D n) : Calls Tryz.prog 96 #[.pointer (some ⟨n.b, 0, none⟩)] w fun e w' => e = .returned (.bool n.k.isSome) ∧ w = w' := dir_cell H.at0.1
def Nd.loose (n : Nd) : Bool := !n.k.isSome && (n.places == 0)
theorem loose_any {w : World} {D : Value → List Int → Prop} {n : Nd} (H : NodeIn (inW w) D n) : Calls Tryz.prog 65 #[.pointer (some ⟨n.b, 0, none⟩)] w fun e w' => e = .returned (.bool n.loose) ∧ w = w' := by
  obtain ⟨c0, _, c2⟩ := H.at0
  have hd := dir_any H
  cases hk : n.k with
  | none =>
    rw [hk] at hd
    have hl : n.loose = (n.places == 0) := by unfold Nd.loose; rw [hk]; rfl
    rw [hl]
    go_enter Tryz.func65, Tryz.ntmps65
    go_wp2_with (go_at_call 96; refine hd.mono ?_; rintro e w' ⟨rfl, rfl⟩)
    go_ret
    exact ⟨rfl, rfl⟩
  | some k =>
    rw [hk] at hd
    have hl : n.loose = false := by unfold Nd.loose; rw [hk]; rfl
    rw [hl]
    go_enter Tryz.func65, Tryz.ntmps65
    go_wp2_with (go_at_call 96; refine hd.mono ?_; rintro e w' ⟨rfl, rfl⟩)
    go_ret
    exact ⟨rfl, rfl⟩
theorem nodes_any {w : World} {D : Value → List Int → Prop} {t : Nat} {T : Tr} (H : TreeIn (inW w) D t T) : Calls Tryz.prog 98 #[.pointer (some ⟨t, 0, none⟩)] w fun e w' => e = .returned (.int .i64 (T.nodes.length : Int)) ∧ w = w' := by
  obtain ⟨_, _, c2⟩ := H.at0
  obtain ⟨o, h1, h2⟩ := H.map
  have hl : ∀ ty, (Builtin.len_ #[80] ty #[.map (some T.bm)]).run Tryz.prog w = _ := fun ty => MapO.length Tryz.underlying80 h2 h1 ty
  rw [show (nodesV T).length = T.nodes.length by simp [nodesV]] at hl
  go_enter Tryz.func98, Tryz.ntmps98
  go_wp2
  go_ret
  exact ⟨rfl, rfl⟩
set_option maxHeartbeats 1000000 in
theorem find_any {w : World} {D : Value → List Int → Prop} {t : Nat} {T : Tr} (H : TreeIn (inW w) D t T) (G : Good T) (s : ByteArray) (hs : s.size ≤ maxLen) (hm : Mx w) :
    Calls Tryz.prog 42 #[.pointer (some ⟨t, 0, none⟩), .string s] w fun e w' => e = .returned (.tuple #[.int .i64 ((findT T s.data.toList).getD 0), .bool (findT T s.data.toList).isSome]) ∧ Below w.heap.size w w' := by
  have hsp := split_any s w hs hm
  generalize s.data.toList = l at *
  by_cases ho : okP l = true
  · have hf : findT T l = walkT T 1 (namesL l) := by unfold findT; rw [if_pos ho]
    rw [hf]
    obtain ⟨R, hR⟩ : ∃ R, walkT T 1 (namesL l) = R := ⟨_, rfl⟩
    have HRR := Lib.hid hR
    rw [hR]
    clear hR
    go_enter Tryz.func42, Tryz.ntmps42
    go_wp2_with fail
    refine hsp.mono ?_
    rintro e w1 ⟨v, rfl, hO⟩
    obtain ⟨a, c, rfl, hn1, hn2⟩ := hO.sized
    have hb1 := hO.below
    have H1 := Lib.hid (H.later hb1)
    have HS := Lib.hid hO.sts
    obtain ⟨_, _, c2⟩ := (H.later hb1).at0
    have hlen := (names_bounds l).1
    unfold maxLen at hn2
    clear hO hsp hf H
    rw [ho]
    generalize namesL l = ls at *
    go_wp2_with fail
    go_loop [8, 20] (fun u i => ∃ (k : Nat) (cur : Int), k ≤ ls.length ∧ i = .int .i64 k ∧ u = .int .i64 cur ∧ Hid (walkT T 1 (ls.take k) = some cur)) (fun _ i => ls.length - (intOf i).toNat)
    case atStart => exact ⟨0, 1, Nat.zero_le _, rfl, rfl, rfl⟩
    case round =>
      obtain ⟨k, cur, hk, rfl, rfl, HW⟩ := hrel
      by_cases hlt : k < ls.length
      · obtain ⟨a', c', e1, _, _, h3⟩ := HS.out
        injection e1 with e1 e2 e3
        subst e1 e3
        obtain ⟨b, o, rfl, _, hcs⟩ := h3 (by omega)
        have hc := hcs k hlt
        clear hcs
        obtain ⟨nd, hnd⟩ := walkT_there G (by obtain ⟨n, _, h, _⟩ := G.root; exact ⟨n, h⟩) HW.out
        have hlk := H1.out.look cur
        rw [hnd] at hlk
        have hN := H1.out.node _ (look_mem hnd)
        obtain ⟨d0, _, _⟩ := hN.at0
        have hsn := walkT_snoc T 1 (ls.take k) ls[k]
        rw [HW.out, ← List.take_succ_eq_append_getElem hlt] at hsn
        simp only [hnd] at hsn
        have hfull : look nd.kids (toB ls[k]) = none → walkT T 1 ls = none := fun hx => by
          have : ∀ (r a : List (List UInt8)) (i : Int), walkT T i a = none → walkT T i (a ++ r) = none := by
            intro r a
            induction a with
            | nil => intro i h; cases h
            | cons x a ih =>
              intro i h
              simp only [List.cons_append, walkT] at h ⊢
              cases h1 : look T.nodes i with
              | none => rfl
              | some n =>
                simp only [h1] at h ⊢
                cases h2 : look n.kids (toB x) with
                | none => rfl
                | some j => simp only [h2] at h ⊢; exact ih j h
          have h5 := this (ls.drop (k + 1)) (ls.take (k + 1)) 1 (by rw [hsn, hx])
          rwa [List.take_append_drop] at h5
        have HSn := Lib.hid hsn
        have HFl := Lib.hid hfull
        have hkl : (Instr.lookup 29 (.map nd.k) (.string (toB ls[k])) true).run Tryz.prog w1 = .ok (.tuple #[.int .i64 ((look nd.kids (toB ls[k])).getD 0), .bool (look nd.kids (toB ls[k])).isSome]) w1 := by
          cases hkk : nd.k with
          | none => rw [hN.file hkk]; exact lookup_nil w1 _
          | some kb => exact hN.look hkk _
        clear hsn hfull h3 hN hnd
        generalize hL : look nd.kids (toB ls[k]) = lk at *
        generalize ls[k] = x at *
        clear hL
        dsimp only [ptrOf] at hlk
        cases lk with
        | none =>
          have HX := Lib.hid (HFl.out rfl)
          clear HFl HSn HW
          dsimp only [Option.getD_none, Option.isSome_none] at hkl
          go_wp2_with fail
          go_ret2
          exact ⟨by rw [← HRR.out, HX.out]; rfl, hb1⟩
        | some j =>
          clear HFl
          dsimp only [Option.getD_some, Option.isSome_some] at hkl
          go_wp2_with fail
          go_round
          case rel => exact ⟨k + 1, j, by omega, by go_num, rfl, HSn⟩
          case measure => simp [intOf]; omega
      · have HT := Lib.hid (show walkT T 1 ls = some cur by have := HW.out; rwa [List.take_of_length_le (by omega)] at this)
        clear HW
        go_wp2_with fail
        go_ret2
        exact ⟨by rw [← HRR.out, HT.out]; rfl, hb1⟩
  · have ho' : okP l = false := by simpa using ho
    have hf : findT T l = none := by unfold findT; rw [if_neg ho]
    rw [hf]
    clear ho hf
    go_enter Tryz.func42, Tryz.ntmps42
    go_wp2_with fail
    refine hsp.mono ?_
    rintro e w1 ⟨v, rfl, hO⟩
    obtain ⟨a, c, rfl, hn1, hn2⟩ := hO.sized
    have hb1 := hO.below
    rw [ho']
    clear hO
    go_wp2_with fail
    go_ret2
    exact ⟨rfl, hb1⟩
end Go.Proofs.YtkhnkidggcjfeaaGreatDoor
end
section
namespace Go.Proofs.YtkhnkidggcjfeaaGreatDoor
open Go.RowKit
open Go.ChangeMaps (setBlock)
def standT (T : Tr) (l : List UInt8) : Option Nd := (findT T l).bind fun i => look T.nodes i
theorem look_zero {T : Tr} (G : Good T) : look T.nodes 0 = none := by
  cases h : look T.nodes 0 with
  | none => rfl
  | some n => have : (1 : Int) ≤ 0 := (G.low _ (look_mem h)).1; omega
theorem stands_any {w : World} {D : Value → List Int → Prop} {t : Nat} {T : Tr} (H : TreeIn (inW w) D t T) (G : Good T) (s : ByteArray) (hs : s.size ≤ maxLen) (hm : Mx w) :
    Calls Tryz.prog 138 #[.pointer (some ⟨t, 0, none⟩), .string s] w fun e w' => e = .returned (ptrOf (standT T s.data.toList)) ∧ Below w.heap.size w w' := by
  have hf := find_any H G s hs hm
  have hst : look T.nodes ((findT T s.data.toList).getD 0) = standT T s.data.toList := by
    unfold standT
    cases findT T s.data.toList with
    | none => exact look_zero G
    | some i => rfl
  have HS := Lib.hid hst
  clear hst
  generalize (findT T s.data.toList).getD 0 = i at *
  go_enter Tryz.func138, Tryz.ntmps138
  go_wp2_with fail
  refine hf.mono ?_
  rintro e w1 ⟨rfl, hb⟩
  have h1 := H.later hb
  obtain ⟨_, _, c2⟩ := h1.at0
  have hlk := h1.look i
  rw [HS.out] at hlk
  clear H h1
  go_wp2_with fail
  go_ret
  exact ⟨rfl, hb⟩
def dirT (T : Tr) (l : List UInt8) : Bool := match standT T l with
  | some n => n.k.isSome
  | none => false
theorem stand_mem {T : Tr} {l : List UInt8} {n : Nd} (h : standT T l = some n) : ∃ i, (i, n) ∈ T.nodes := by
  unfold standT at h
  cases hf : findT T l with
  | none => rw [hf] at h; cases h
  | some i => rw [hf] at h; exact ⟨i, look_mem h⟩
theorem isdir_any {w : World} {D : Value → List Int → Prop} {t : Nat} {T : Tr} (H : TreeIn (inW w) D t T) (G : Good T) (s : ByteArray) (hs : s.size ≤ maxLen) (hm : Mx w) :
    Calls Tryz.prog 269 #[.pointer (some ⟨t, 0, none⟩), .string s] w fun e w' => e = .returned (.bool (dirT T s.data.toList)) ∧ Below w.heap.size w w' := by
  have hf := stands_any H G s hs hm
  cases hst : standT T s.data.toList with
  | none =>
    rw [hst] at hf
    have hd : dirT T s.data.toList = false := by unfold dirT; rw [hst]
    rw [hd]
    dsimp only [ptrOf] at hf
    clear hst hd
    go_enter Tryz.func269, Tryz.ntmps269
    go_wp2_with fail
    refine hf.mono ?_
    rintro e w1 ⟨rfl, hb⟩
    go_wp2_with fail
    go_ret
    exact ⟨rfl, hb⟩
  | some n =>
    rw [hst] at hf
    have hd : dirT T s.data.toList = n.k.isSome := by unfold dirT; rw [hst]
    rw [hd]
    obtain ⟨i, hi⟩ := stand_mem hst
    have hN := H.node _ hi
    dsimp only [ptrOf] at hf
    clear hst hd
    go_enter Tryz.func269, Tryz.ntmps269
    go_wp2_with fail
    refine hf.mono ?_
    rintro e w1 ⟨rfl, hb⟩
    have hd1 := dir_any ((H.later hb).node _ hi)
    clear hN H
    go_wp2_with (go_at_call 96; refine hd1.mono ?_; rintro e w' ⟨rfl, rfl⟩)
    go_ret
    exact ⟨rfl, hb⟩
/-! ### Used -/
def sumT (l : List (Int × Nd)) : Nat := (l.map fun p => p.2.data.length).sum
theorem sumT_perm {a b : List (Int × Nd)} (h : a.Perm b) : sumT a = sumT b := (h.map _).sum_nat
def ndV (l : List (Int × Nd)) : List (Int × Value) := l.map fun p => (p.1, .pointer (some ⟨p.2.b, 0, none⟩))
theorem below_setBlock {B : Nat} {a w : World} (h : Below B a w) {r : Nat} (hr : B ≤ r) (o : Obj) : Below B a (setBlock w r o) :=
  h.trans ⟨rfl, rfl, rfl, by simp [setBlock], fun i hi => by
    have : r ≠ i := by omega
    simp [setBlock, this]⟩
def Walks (w : World) (t : Nat) (T : Tr) (oi o : Obj) (done left : List (Int × Nd)) (wr : World) : Prop :=
  wr.heap[w.heap.size]? = some oi ∧ w.heap[T.bm]? = some o ∧ IterO KI oi T.bm o (nodesV T) (ndV left) ∧ (done ++ left).Perm T.nodes ∧ Below w.heap.size w wr
theorem Walks.start {w : World} {D : Value → List Int → Prop} {t : Nat} {T : Tr} (H : TreeIn (inW w) D t T) : ∃ oi o, (Instr.range 80 (.map (some T.bm))).run Tryz.prog w = .ok (.pointer (some ⟨w.heap.size, 0, none⟩)) (w.alloc oi) ∧ Walks w t T oi o [] T.nodes (w.alloc oi) := by
  obtain ⟨o, h1, h2⟩ := H.map
  obtain ⟨oi, h3, h4⟩ := h2.range Tryz.underlying80 h1
  exact ⟨oi, o, h3, (MapKept.heap_alloc w _).1, h1, h4, List.Perm.refl _, (Below.refl _ _).alloc (Nat.le_refl _) _⟩
theorem ndV_split {l : List (Int × Nd)} {x z : List (Int × Value)} {y : Int × Value} (h : ndV l = x ++ y :: z) : ∃ a p c, l = a ++ p :: c ∧ ndV a = x ∧ y = (p.1, .pointer (some ⟨p.2.b, 0, none⟩)) ∧ ndV c = z := by
  obtain ⟨a, p, c, h1, h2, h3, h4⟩ := map_split _ l x y z h
  exact ⟨a, p, c, h1, h2, h3.symm, h4⟩
theorem Walks.next {w wr : World} {t : Nat} {T : Tr} {oi o : Obj} {done left : List (Int × Nd)} (h : Walks w t T oi o done left wr) :
    (left = [] ∧ ∀ ty, (Instr.next (.pointer (some ⟨w.heap.size, 0, none⟩)) false ty).run Tryz.prog wr = .ok (.tuple #[.bool false]) wr) ∨
    ∃ (l1 l2 : List (Int × Nd)) (p : Int × Nd) (oi' : Obj) (w2 : World), left = l1 ++ p :: l2 ∧ (∀ ty, (Instr.next (.pointer (some ⟨w.heap.size, 0, none⟩)) false ty).run Tryz.prog wr = .ok (.tuple #[.bool true, .int .i64 p.1, .pointer (some ⟨p.2.b, 0, none⟩)]) w2) ∧ Walks w t T oi' o (done ++ [p]) (l1 ++ l2) w2 ∧ p ∈ T.nodes ∧
      (∀ u : World, u.heap[w.heap.size]? = some oi' → u.heap[T.bm]? = some o → (Instr.entry (.pointer (some ⟨w.heap.size, 0, none⟩))).run Tryz.prog u = .ok (.tuple #[.int .i64 p.1, .pointer (some ⟨p.2.b, 0, none⟩)]) u) := by
  obtain ⟨h1, h2, h3, h4, h5⟩ := h
  have hlt := lt_of_heap h2
  have h2' : wr.heap[T.bm]? = some o := (h5.block _ hlt).trans h2
  rcases h3.next (P := Tryz.prog) 0 h1 h2' with ⟨g1, g2⟩ | ⟨x, y, z, w1, oi', g1, g2, g3, g4, g5⟩
  · left
    have : left = [] := List.map_eq_nil_iff.1 g1
    exact ⟨this, fun ty => g2⟩
  · right
    obtain ⟨l1, p, l2, e1, e2, e3, e4⟩ := ndV_split g1
    have hb1 : Below w.heap.size w w1 := by rcases g2 with rfl | rfl; exact h5; exact h5.drew
    have hlt1 : w.heap.size < w1.heap.size := by rcases g2 with rfl | rfl <;> exact lt_of_heap h1
    obtain ⟨s1, s2, s3⟩ := setBlock_heap w1 w.heap.size oi' hlt1
    refine ⟨l1, l2, p, oi', setBlock w1 w.heap.size oi', e1, fun ty => by rw [show (Instr.next (.pointer (some ⟨w.heap.size, 0, none⟩)) false ty) = (Instr.next (.pointer (some ⟨w.heap.size, 0, none⟩)) false 0) from rfl, g3, e3], ⟨s1, h2, by rw [show ndV (l1 ++ l2) = x ++ z by rw [← e2, ← e4]; simp [ndV]]; exact g4, ?_, below_setBlock hb1 (Nat.le_refl _) _⟩, ?_, fun u hu hu2 => by rw [g5 u hu hu2, e3]⟩
    · refine List.Perm.trans ?_ h4
      rw [e1]
      simp only [List.append_assoc, List.singleton_append]
      exact (List.perm_middle.symm).append_left done
    · exact h4.subset (by rw [e1]; simp)
theorem Walks.tree {w wr : World} {D : Value → List Int → Prop} {t : Nat} {T : Tr} {oi o : Obj} {done left : List (Int × Nd)} (h : Walks w t T oi o done left wr) (H : TreeIn (inW w) D t T) : TreeIn (inW wr) D t T := H.later h.2.2.2.2
theorem Walks.entry {w wr : World} {t : Nat} {T : Tr} {oi o : Obj} {done left : List (Int × Nd)} (h : Walks w t T oi o done left wr) : wr.heap[w.heap.size]? = some oi ∧ wr.heap[T.bm]? = some o := ⟨h.1, (h.2.2.2.2.block _ (lt_of_heap h.2.1)).trans h.2.1⟩
def leftN (w : World) (b r : Nat) : Nat := match w.heap[b]?, w.heap[r]? with
  | some (.map es _), some (.mapIter _ _ seen _) => (leftOf es seen).size
  | _, _ => 0
theorem Walks.left_eq {w wr : World} {t : Nat} {T : Tr} {oi o : Obj} {done left : List (Int × Nd)} (h : Walks w t T oi o done left wr) : leftN wr T.bm w.heap.size = left.length := by
  obtain ⟨e1, e2⟩ := h.entry
  obtain ⟨es, clock, since, seen, c0, rfl, rfl, _, _, _, _, _, _, h7⟩ := h.2.2.1
  have := congrArg List.length h7
  simp only [leftN, e1, e2]
  simpa [ndV] using this
def UsedRel (w : World) (t : Nat) (T : Tr) (s : Value) (wr : World) : Prop := ∃ oi o done left, Walks w t T oi o done left wr ∧ s = .int .i64 (sumT done : Nat)
theorem used_any {w : World} {D : Value → List Int → Prop} {t : Nat} {T : Tr} (H : TreeIn (inW w) D t T) (hu : sumT T.nodes ≤ 1000000000) :
    Calls Tryz.prog 99 #[.pointer (some ⟨t, 0, none⟩)] w fun e w' => e = .returned (.int .i64 (sumT T.nodes : Nat)) ∧ Below w.heap.size w w' := by
  obtain ⟨_, _, c2⟩ := H.at0
  obtain ⟨oi, o, hrun, hW⟩ := Walks.start H
  have HW := Lib.hid hW
  have HH := Lib.hid H
  clear H hW
  go_enter Tryz.func99, Tryz.ntmps99
  go_wp2_with fail
  go_loopw [3] (fun s wr => UsedRel w t T s wr) (fun _ wr => leftN wr T.bm w.heap.size)
  case atStart => exact ⟨oi, o, [], T.nodes, HW.out, rfl⟩
  case round =>
    obtain ⟨oi2, o2, done, left, hW, rfl⟩ := hrel
    have hle := hW.left_eq
    have hperm := hW.2.2.2.1
    have HW2 := Lib.hid hW
    have HB := Lib.hid hW.2.2.2.2
    rcases hW.next with ⟨rfl, hn⟩ | ⟨l1, l2, p, oi', w2, rfl, hn, hW', hp, hen⟩
    · have HS := Lib.hid (show sumT done = sumT T.nodes from sumT_perm (by simpa using hperm))
      clear hW hle hperm
      go_wp2_with fail
      go_ret
      exact ⟨by rw [HS.out]; rfl, HB.out⟩
    · have hN := (hW'.tree HH.out).node p hp
      obtain ⟨_, d1, _⟩ := hN.at0
      obtain ⟨a, c, hf⟩ := hN.form
      rw [hf] at d1
      obtain ⟨e1, e2⟩ := hW'.entry
      have hent := hen w2 e1 e2
      have hsum : sumT (done ++ [p]) = sumT done + p.2.data.length := by simp [sumT]
      have htot : sumT (done ++ [p]) ≤ 1000000000 := by
        have h1 := sumT_perm hW'.2.2.2.1
        have h2 : sumT (done ++ [p] ++ (l1 ++ l2)) = sumT (done ++ [p]) + sumT (l1 ++ l2) := by simp [sumT]; omega
        omega
      have HX := Lib.hid (show UsedRel w t T (.int .i64 (sumT (done ++ [p]) : Nat)) w2 from ⟨oi', o2, _, _, hW', rfl⟩)
      have hl2 := hW'.left_eq
      have HL := Lib.hid (show leftN w2 T.bm w.heap.size < leftN wr T.bm w.heap.size by rw [hle, hl2]; simp)
      rw [hsum] at htot
      have HSm := Lib.hid hsum
      clear hW hW' hN hf e1 e2 hen hperm hle hl2 hsum
      generalize sumT done = X at *
      go_wp2_with fail
      go_roundw
      case rel => rw [HSm.out] at HX; have := HX.out; rwa [Int.natCast_add] at this
      case measure => exact HL.out
end Go.Proofs.YtkhnkidggcjfeaaGreatDoor
end
section
namespace Go.Proofs.YtkhnkidggcjfeaaGreatDoor
open Go.RowKit
open Go.ChangeMaps (setBlock)
structure Tree (S : Blocks) (D : Value → List Int → Prop) (t : Nat) (T : Tr) : Prop where
  at_ : TreeIn (inS S) D t T
  apart : (t :: T.foot).Nodup
  good : Good T
structure Frame (S S' : Blocks) (F F' : List Nat) (n : Nat) : Prop where
  kept : ∀ b o, (b, o) ∈ S → b ∉ F → (b, o) ∈ S'
  fresh : ∀ b ∈ F', b ∈ F ∨ n ≤ b
theorem Frame.refl (S : Blocks) (F : List Nat) (n : Nat) : Frame S S F F n := ⟨fun _ _ h _ => h, fun _ h => .inl h⟩
theorem foot_mem {T : Tr} {p : Int × Nd} (hp : p ∈ T.nodes) {b : Nat} (hb : b ∈ p.2.foot) : b ∈ T.foot := List.mem_cons_of_mem _ (List.mem_flatMap.2 ⟨p, hp, hb⟩)
theorem newDir_any (w : World) : Calls Tryz.prog 127 #[] w fun e w' => e = .returned (.pointer (some ⟨w.heap.size + 1, 0, none⟩)) ∧ w' = (w.alloc (.map #[] 0)).alloc (.cells #[.map (some w.heap.size), .slice none 0 0, .int .i64 0] 133) := by
  have hmk : ∀ w, (Instr.makeMap 29 none).run Tryz.prog w = .ok (.map (some w.heap.size)) (w.alloc (.map #[] 0)) := fun w => rfl
  go_enter Tryz.func127, Tryz.ntmps127
  go_wp2
  go_ret
  exact ⟨by simp, rfl⟩
def newNd (b : Nat) : Nd := ⟨b + 1, some b, [], .slice none 0 0, [], 0⟩
def newT (b : Nat) (q : Int) : Tr := ⟨b, max q 0, 2, [(1, newNd (b + 1))]⟩
def NewAt2 (w0 : World) (S : Blocks) (L : List Rw) (D : Value → List Int → Prop) (w : World) (q : Int) (e : Ending) (w' : World) : Prop :=
  ∃ S', e = .returned (.pointer (some ⟨w.heap.size + 3, 0, none⟩)) ∧ Own ⟨w0, S'⟩ w' L ∧ Tree S' D (w.heap.size + 3) (newT w.heap.size q) ∧ (∀ b o, (b, o) ∈ S → (b, o) ∈ S')
theorem new_tree (S : Blocks) (D : Value → List Int → Prop) (b : Nat) (q : Int) (o1 : Obj) (hm1 : MapO KI o1 (put [] (1 : Int) (.pointer (some ⟨b + 2, 0, none⟩)))) (hD : D (.slice none 0 0) []) :
    Tree ((b + 3, .cells (treeCells (newT b q)) 82) :: (b + 2, .cells #[.map (some (b + 1)), .slice none 0 0, .int .i64 0] 133) :: (b + 1, .map #[] 0) :: (b, o1) :: S) D (b + 3) (newT b q) := by
  have hone : ∀ p ∈ (newT b q).nodes, p = (1, newNd (b + 1)) := fun p hp => by simpa [newT] using hp
  refine ⟨⟨List.mem_cons_self .., ⟨o1, List.mem_cons_of_mem _ (List.mem_cons_of_mem _ (List.mem_cons_of_mem _ (List.mem_cons_self ..))), hm1⟩, fun p hp => ?_⟩, ?_, ⟨?_, ?_, ?_, ?_⟩⟩
  · rw [hone p hp]
    refine ⟨List.mem_cons_of_mem _ (List.mem_cons_self ..), fun k hk => ?_, (fun h => by cases h), hD, ⟨none, 0, rfl⟩⟩
    have hk2 : b + 1 = k := by injection hk
    subst hk2
    exact ⟨.map #[] 0, List.mem_cons_of_mem _ (List.mem_cons_of_mem _ (List.mem_cons_self ..)), MapO.empty KS⟩
  · show ([b + 3, b, b + 1 + 1, b + 1] : List Nat).Nodup
    simp; omega
  · show ([1] : List Int).Nodup
    simp
  · exact ⟨newNd (b + 1), b + 1, rfl, rfl⟩
  · intro p hp q' hq'
    rw [hone p hp] at hq'
    exact absurd hq' (by simp [newNd])
  · intro p hp
    rw [hone p hp]
    exact ⟨Int.le_refl _, .inl rfl⟩
theorem upd_not {S : Blocks} {b : Nat} (o : Obj) (h : ∀ m ∈ S, m.1 ≠ b) : upd S b o = S := by
  unfold upd
  refine (List.map_congr_left fun m hm => ?_).trans (List.map_id _)
  rw [if_neg (h m hm)]; rfl
theorem tnew_any {w0 w : World} {S : Blocks} {L : List Rw} {D : Value → List Int → Prop} (hO : Own ⟨w0, S⟩ w L) (hD : D (.slice none 0 0) []) (q : Int) (hq : (Lit.int .i64 q).wf = true) :
    Calls Tryz.prog 80 #[.int .i64 q] w (NewAt2 w0 S L D w q) := by
  have h1 := hO.newB (.map #[] 0)
  have h2 := h1.newB (.map #[] 0)
  have h3 := h2.newB (.cells #[.map (some (w.heap.size + 1)), .slice none 0 0, .int .i64 0] 133)
  have e1 : (w.alloc (.map #[] 0)).heap.size = w.heap.size + 1 := by simp
  have e2 : ((w.alloc (.map #[] 0)).alloc (.map #[] 0)).heap.size = w.heap.size + 2 := by simp
  rw [e1, e2] at h3
  have hnd := newDir_any (w.alloc (.map #[] 0))
  rw [e1] at hnd
  have hmk : ∀ w, (Instr.makeMap 80 none).run Tryz.prog w = .ok (.map (some w.heap.size)) (w.alloc (.map #[] 0)) := fun w => rfl
  have es3 : (((w.alloc (.map #[] 0)).alloc (.map #[] 0)).alloc (.cells #[.map (some (w.heap.size + 1)), .slice none 0 0, .int .i64 0] 133)).heap.size = w.heap.size + 3 := by simp
  obtain ⟨W3, hW3⟩ : ∃ W3, W3 = ((w.alloc (.map #[] 0)).alloc (.map #[] 0)).alloc (.cells #[.map (some (w.heap.size + 1)), .slice none 0 0, .int .i64 0] 133) := ⟨_, rfl⟩
  rw [← hW3] at h3 hnd es3
  clear hW3 h1 h2
  obtain ⟨o1, hup, hm1⟩ := (MapO.empty KI).update kindsI Tryz.underlying80 (h3.at (b := w.heap.size) (o := .map #[] 0) (by simp)) 1 (.pointer (some ⟨w.heap.size + 2, 0, none⟩))
  have h4 := h3.setB (b := w.heap.size) (o := .map #[] 0) (by simp) o1
  have e4 : (setBlock W3 w.heap.size o1).heap.size = w.heap.size + 3 := by rw [(setBlock_heap W3 w.heap.size o1 (by omega)).2.2, es3]
  obtain ⟨W4, hW4⟩ : ∃ W4, W4 = setBlock W3 w.heap.size o1 := ⟨_, rfl⟩
  rw [← hW4] at h4 hup e4
  clear hW4
  have h5 := h4.newB (.cells (treeCells (newT w.heap.size q)) 82)
  have hS : upd S w.heap.size o1 = S := upd_not o1 fun m hm e => by have := lt_of_heap (hO.maps m hm).2; omega
  rw [e4, show upd ((w.heap.size + 2, Obj.cells #[.map (some (w.heap.size + 1)), .slice none 0 0, .int .i64 0] 133) :: (w.heap.size + 1, Obj.map #[] 0) :: (w.heap.size, Obj.map #[] 0) :: S) w.heap.size o1 = (w.heap.size + 2, Obj.cells #[.map (some (w.heap.size + 1)), .slice none 0 0, .int .i64 0] 133) :: (w.heap.size + 1, Obj.map #[] 0) :: (w.heap.size, o1) :: upd S w.heap.size o1 by
    unfold upd
    rw [List.map_cons, List.map_cons, List.map_cons, if_neg (by simp), if_neg (by simp), if_pos rfl], hS] at h5
  have HP := Lib.hid (show NewAt2 w0 S L D w q (.returned (.pointer (some ⟨w.heap.size + 3, 0, none⟩))) (W4.alloc (.cells (treeCells (newT w.heap.size q)) 82)) from
    ⟨_, rfl, h5, new_tree S D _ q o1 hm1 hD, fun b o hb => List.mem_cons_of_mem _ (List.mem_cons_of_mem _ (List.mem_cons_of_mem _ (List.mem_cons_of_mem _ hb)))⟩)
  clear h3 h4 h5 hS hm1 hO hD e1 e2 es3
  go_enter Tryz.func80, Tryz.ntmps80
  go_wp2_with (go_at_call 127; refine hnd.mono ?_; rintro e w' ⟨rfl, rfl⟩)
  go_ret
  exact HP.out
end Go.Proofs.YtkhnkidggcjfeaaGreatDoor
end
