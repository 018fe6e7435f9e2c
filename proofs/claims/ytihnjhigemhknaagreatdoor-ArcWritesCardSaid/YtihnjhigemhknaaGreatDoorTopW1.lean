/- Texts one behind the other, each in a section of its own: what calls make of memory, step by step. -/
import Derived.Test.YtihnjhigemhknaaGreatDoorAr19
import Derived.Test.YtihnjhigemhknaaGreatDoorCMath
import Derived.Lib.SlBytesConst
import Derived.Test.YtihnjhigemhknaaGreatDoorVe5
import Derived.Deep.LoopGhost
import Derived.Test.YtihnjhigemhknaaGreatDoorPRef
import Derived.Deep.QuietTactic
import Derived.BigQuiet
import Derived.Laws.StructEq
import Derived.Test.YtihnjhigemhknaaGreatDoorRows
import Derived.Deep.Slices
import Derived.Deep.Strs
import Derived.Lib.SmallJoins
import Derived.WideShapes
import Derived.ProofKit
import Derived.OpenShut
import Derived.Test.YtihnjhigemhknaaGreatDoorCOf
import Derived.Deep.AppendLies
import Derived.OwnWalk
import Derived.IntWalk
import Derived.Below
import Derived.Deep.DeepCutAuto

/- What bytes say that a package was packed to is that package, but for where its files' bytes lie; what bytes say is not greater than they. -/
section
namespace Go.Proofs.YtihnjhigemhknaaGreatDoor
open Go.RowKit
set_option linter.unusedVariables false
set_option linter.unusedSimpArgs false
set_option maxRecDepth 100000

theorem num4_le4A (n : Int) (h0 : 0 ≤ n) (h1 : n < 4294967296) (l : List Int) : num4 (le4 n ++ l) = n := by
  unfold num4 le4
  simp
  omega
theorem num4_sizedA (zs l : List Int) (h : zs.length < 4294967296) : num4 (sizedL zs ++ l) = zs.length := by
  unfold sizedL
  rw [List.append_assoc, num4_le4A _ (by omega) (by omega)]
theorem isSized_A (zs l : List Int) (most : Int) (h : zs.length < 4294967296) (hm : (zs.length : Int) ≤ most) : isSized (sizedL zs ++ l) most := by
  refine ⟨?_, ?_, ?_⟩
  · rw [List.length_append, sizedL_length]; omega
  · rw [num4_sizedA _ _ h]; exact hm
  · rw [num4_sizedA _ _ h, List.length_append, sizedL_length]; omega
theorem drop4_A (zs l : List Int) : (sizedL zs ++ l).drop 4 = zs ++ l := by
  unfold sizedL le4
  rfl
theorem bodP_sized (most : Int) (a r : List Int) (bad : Bool) (h : a.length < 4294967296) (hm : (a.length : Int) ≤ most) : bodP most (sizedL a ++ r) bad = (a, r, bad) := by
  unfold bodP
  rw [if_pos (isSized_A a r most h hm)]
  unfold bodyOf restOf
  rw [num4_sizedA _ _ h, drop4_A, Int.toNat_natCast, List.take_left' rfl, List.drop_left' rfl]
theorem numP_le4 (most n : Int) (r : List Int) (bad : Bool) (h0 : 0 ≤ n) (h1 : n < 4294967296) (hm : n ≤ most) : numP most (le4 n ++ r) bad = (n, r, bad) := by
  unfold numP
  rw [if_pos ⟨by simp [le4], by rw [num4_le4A _ h0 h1]; exact hm⟩, num4_le4A _ h0 h1]
  rfl
theorem str_sbA (s : ByteArray) : strOfNums (sb s) = s := by
  obtain ⟨⟨l⟩⟩ := s
  unfold strOfNums sb
  congr 1
  simp [List.map_map, Function.comp_def]
theorem mxI_le {n : Nat} (h : n ≤ 100000000) : (n : Int) ≤ mxI := by unfold mxI; omega
theorem runT_flat {α β : Type} (f : List Int → Bool → α × List Int × Bool) (g : β → List Int) (v : β → α) : ∀ (xs : List β) (hx : ∀ x ∈ xs, ∀ r bad, f (g x ++ r) bad = (v x, r, bad)) (hp : ∀ x ∈ xs, 0 < (g x).length) (k : Nat) (hk : (xs.map g).flatten.length ≤ k) (bad : Bool), runT f k (xs.map g).flatten bad = xs.map v
  | [], _, _, k, _, bad => runT_nil f k _ bad rfl
  | x :: xs, hx, hp, k, hk, bad => by
    have h1 := hp x (List.mem_cons_self ..)
    simp only [List.map_cons, List.flatten_cons, List.length_append] at hk ⊢
    obtain ⟨m, rfl⟩ : ∃ m, k = m + 1 := ⟨k - 1, by omega⟩
    rw [runT, if_neg (by rw [List.length_append]; omega), hx x (List.mem_cons_self ..)]
    dsimp only
    rw [runT_flat f g v xs (fun y hy => hx y (List.mem_cons_of_mem _ hy)) (fun y hy => hp y (List.mem_cons_of_mem _ hy)) m (by omega) bad]
theorem tkT_flat {α β : Type} (f : List Int → Bool → α × List Int × Bool) (g : β → List Int) (v : β → α) (xs : List β) (hx : ∀ x ∈ xs, ∀ r bad, f (g x ++ r) bad = (v x, r, bad)) (hp : ∀ x ∈ xs, 0 < (g x).length) (hl : (xs.map g).flatten.length ≤ 16777216) (r : List Int) (bad : Bool) : tkT f (sizedL (xs.map g).flatten ++ r, bad) = xs.map v := by
  have e : inL (sizedL (xs.map g).flatten ++ r) = ((xs.map g).flatten, false) := by
    unfold inL
    rw [bodP_sized _ _ _ _ (by omega) (by omega)]
  unfold tkT
  dsimp only
  rw [e]
  exact runT_flat f g v xs hx hp _ (Nat.le_refl _) false
theorem outL_sized (z r : List Int) (bad : Bool) (hl : z.length ≤ 16777216) : outL (sizedL z ++ r) bad = (r, bad) := by
  unfold outL
  rw [bodP_sized _ _ _ _ (by omega) (by omega)]
theorem textT_textL (s : ByteArray) (hs : s.size ≤ 1000000) (r : List Int) (bad : Bool) : textT (textL s ++ r) bad = (s, r, bad) := by
  unfold textT textL
  rw [bodP_sized _ _ _ _ (by rw [sb_length]; omega) (by rw [sb_length]; unfold mxI; omega), str_sbA]
theorem needT_packN (n : NeedD) (h1 : n.name.size ≤ 1000000) (h2 : n.ver.size ≤ 1000000) (h3 : 0 ≤ n.way ∧ n.way ≤ 3) (r : List Int) (bad : Bool) : needT (packN n ++ r) bad = (n, r, bad) := by
  unfold needT packN
  dsimp only
  rw [List.append_assoc, List.append_assoc, bodP_sized _ _ _ _ (by rw [sb_length]; omega) (by rw [sb_length]; unfold mxI; omega)]
  dsimp only
  rw [numP_le4 _ _ _ _ h3.1 (by omega) (by unfold mxI; omega)]
  dsimp only
  rw [bodP_sized _ _ _ _ (by rw [sb_length]; omega) (by rw [sb_length]; unfold mxI; omega), str_sbA, str_sbA]
theorem fileT_packF (f : FileD) (h1 : f.path.size ≤ 1000000) (h2 : f.data.length ≤ 1000000) (r : List Int) (bad : Bool) : fileT (packF f ++ r) bad = (trip f, r, bad) := by
  unfold fileT packF trip
  dsimp only
  rw [List.append_assoc, List.append_assoc, bodP_sized _ _ _ _ (by rw [sb_length]; omega) (by rw [sb_length]; unfold mxI; omega)]
  dsimp only
  rw [numP_le4 _ _ _ _ (by split <;> decide) (by split <;> decide) (by split <;> decide)]
  dsimp only
  rw [bodP_sized _ _ _ _ (by omega) (by unfold mxI; omega), str_sbA]
  cases f.config <;> rfl
/-- The same packages, but for where files' bytes lie. -/
structure SameP (D D' : PkgD) : Prop where
  name : D'.name = D.name
  ver : D'.ver = D.ver
  needs : D'.needs = D.needs
  confs : D'.confs = D.confs
  files : D'.files.map trip = D.files.map trip
  units : D'.units = D.units
theorem says_pack (D D' : PkgD) (h : Says (packP D) D') (hf : Fits D) (hw : ∀ n ∈ D.needs, 0 ≤ n.way ∧ n.way ≤ 3) (h1 : (D.needs.map packN).flatten.length ≤ 16777216) (h2 : (D.confs.map textL).flatten.length ≤ 16777216) (h3 : (D.files.map packF).flatten.length ≤ 16777216) (h4 : (D.units.map textL).flatten.length ≤ 16777216) : SameP D D' := by
  have b1 : ∀ r bad, bodP mxI (textL D.name ++ r) bad = (sb D.name, r, bad) := fun r bad => bodP_sized _ _ _ _ (by rw [sb_length]; have := hf.name; omega) (by rw [sb_length]; have := hf.name; unfold mxI; omega)
  have b2 : ∀ r bad, bodP mxI (textL D.ver ++ r) bad = (sb D.ver, r, bad) := fun r bad => bodP_sized _ _ _ _ (by rw [sb_length]; have := hf.ver; omega) (by rw [sb_length]; have := hf.ver; unfold mxI; omega)
  obtain ⟨q1, q2, q3, q4, q5, q6⟩ := h
  generalize hA : (D.needs.map packN).flatten = A at *
  generalize hB : (D.confs.map textL).flatten = B at *
  generalize hC : (D.files.map packF).flatten = C at *
  generalize hE : (D.units.map textL).flatten = E at *
  have e0 : packP D = textL D.name ++ (textL D.ver ++ (sizedL A ++ (sizedL B ++ (sizedL C ++ sizedL E)))) := by unfold packP; rw [hA, hB, hC, hE]
  have u1 : un1 (packP D) = (textL D.ver ++ (sizedL A ++ (sizedL B ++ (sizedL C ++ sizedL E))), false) := by unfold un1; rw [e0, b1]
  have u2 : un2 (packP D) = (sizedL A ++ (sizedL B ++ (sizedL C ++ sizedL E)), false) := by unfold un2; rw [u1, b2]
  have u3 : un3 (packP D) = (sizedL B ++ (sizedL C ++ sizedL E), false) := by unfold un3; rw [u2]; exact outL_sized _ _ _ h1
  have u4 : un4 (packP D) = (sizedL C ++ sizedL E, false) := by unfold un4; rw [u3]; exact outL_sized _ _ _ h2
  have u5 : un5 (packP D) = (sizedL E ++ [], false) := by unfold un5; rw [u4, List.append_nil]; exact outL_sized _ _ _ h3
  rw [u1, b2] at q2
  rw [e0, b1] at q1
  rw [u2] at q3
  rw [u3] at q4
  rw [u4] at q5
  rw [u5] at q6
  subst hA hB hC hE
  refine ⟨?_, ?_, ?_, ?_, ?_, ?_⟩
  · rw [q1]; exact str_sbA _
  · rw [q2]; exact str_sbA _
  · rw [q3, tkT_flat needT packN id D.needs (fun x hx r bad => needT_packN x (hf.need x hx).1 (hf.need x hx).2 (hw x hx) r bad) (fun x hx => by unfold packN; rw [List.length_append, sizedL_length]; omega) h1, List.map_id]
  · rw [q4, tkT_flat textT textL id D.confs (fun x hx r bad => textT_textL x (hf.conf x hx) r bad) (fun x hx => by rw [textL_len]; omega) h2, List.map_id]
  · rw [q5, tkT_flat fileT packF trip D.files (fun x hx r bad => fileT_packF x (hf.file x hx).1 (hf.file x hx).2 r bad) (fun x hx => by unfold packF; rw [List.length_append, sizedL_length]; omega) h3]
  · rw [q6, tkT_flat textT textL id D.units (fun x hx r bad => textT_textL x (hf.unit x hx) r bad) (fun x hx => by rw [textL_len]; omega) h4, List.map_id]
/-! ### Packages that are the same may be alike, and are packed alike -/
theorem trip_at {fs gs : List FileD} (h : gs.map trip = fs.map trip) : gs.length = fs.length ∧ ∀ k (h1 : k < fs.length) (h2 : k < gs.length), gs[k].path = fs[k].path ∧ gs[k].config = fs[k].config ∧ gs[k].data = fs[k].data := by
  have hl : gs.length = fs.length := by have := congrArg List.length h; simpa using this
  refine ⟨hl, fun k h1 h2 => ?_⟩
  have h3 : (gs.map trip)[k]? = (fs.map trip)[k]? := by rw [h]
  rw [List.getElem?_map, List.getElem?_map, List.getElem?_eq_getElem h1, List.getElem?_eq_getElem h2] at h3
  have h4 : trip gs[k] = trip fs[k] := by simpa using h3
  unfold trip at h4
  injection h4 with a b
  injection b with b c
  exact ⟨a, b, c⟩
theorem filesOk_same {fs gs : List FileD} (h : gs.map trip = fs.map trip) : filesOk gs = filesOk fs := by
  obtain ⟨hl, hk⟩ := trip_at h
  unfold filesOk
  rw [hl, Bool.eq_iff_iff, List.all_eq_true, List.all_eq_true]
  have hat : ∀ k, k < fs.length → fileAt gs k = fileAt fs k := by
    intro k hkl
    have hg : k < gs.length := by omega
    obtain ⟨p1, p2, p3⟩ := hk k hkl hg
    rw [fileAt_eq gs k hg, fileAt_eq fs k hkl]
    have e1 : fileOk gs[k] = fileOk fs[k] := by unfold fileOk; rw [p1, p3]
    have e2 : lateBad gs k gs[k] = lateBad fs k fs[k] := by
      cases k with
      | zero => rfl
      | succ j => rw [lateBad_succ gs j _ (by omega), lateBad_succ fs j _ (by omega), p1, (hk j (by omega) (by omega)).1]
    have e3 : ((gs.take k).any fun x => withinL gs[k].path.data.toList x.path.data.toList) = ((fs.take k).any fun x => withinL fs[k].path.data.toList x.path.data.toList) := by
      rw [p1]
      have a1 : ∀ xs : List FileD, (xs.any fun x => withinL fs[k].path.data.toList x.path.data.toList) = ((xs.map trip).any fun t => withinL fs[k].path.data.toList t.1.data.toList) := fun xs => by rw [List.any_map]; rfl
      rw [a1, a1, List.map_take, List.map_take, h]
    rw [e1, e2, e3]
  constructor
  · intro hh k hm
    rw [← hat k (List.mem_range.1 hm)]
    exact hh k hm
  · intro hh k hm
    rw [hat k (List.mem_range.1 hm)]
    exact hh k hm
theorem pkOk_same {D D' : PkgD} (h : SameP D D') : pkOk D' = pkOk D := by
  have hl := (trip_at h.files).1
  unfold pkOk fewOk
  rw [h.name, h.ver, h.needs, h.confs, h.units, hl, filesOk_same h.files]
def packT (t : ByteArray × Bool × List Int) : List Int := sizedL (sb t.1) ++ (le4 (if t.2.1 then 1 else 0) ++ sizedL t.2.2)
theorem packF_trip (fs : List FileD) : fs.map packF = (fs.map trip).map packT := by rw [List.map_map]; rfl
theorem packP_same {D D' : PkgD} (h : SameP D D') : packP D' = packP D := by
  unfold packP
  rw [h.name, h.ver, h.needs, h.confs, h.units, packF_trip, h.files, ← packF_trip]
/-! ### What bytes say is not greater than they -/
theorem bodP_fst_le (most : Int) (zs : List Int) (bad : Bool) : (bodP most zs bad).1.length ≤ zs.length := by
  unfold bodP
  split
  · unfold bodyOf; dsimp only; rw [List.length_take, List.length_drop]; omega
  · simp
theorem runT_all {α : Type} (f : List Int → Bool → α × List Int × Bool) (p : α → Prop) (N : Nat) (hp : ∀ zs bad, zs.length ≤ N → p (f zs bad).1) (hl : ∀ zs bad, 0 < zs.length → (f zs bad).2.1.length < zs.length) : ∀ (k : Nat) (zs : List Int) (bad : Bool), zs.length ≤ N → (∀ x ∈ runT f k zs bad, p x) ∧ (runT f k zs bad).length ≤ zs.length
  | 0, zs, bad, _ => ⟨fun x hx => (by simp [runT] at hx), by simp [runT]⟩
  | k + 1, zs, bad, hN => by
    unfold runT
    by_cases h0 : zs.length = 0
    · rw [if_pos h0]; exact ⟨fun x hx => (by cases hx), by simp⟩
    · rw [if_neg h0]
      have h1 := hl zs bad (by omega)
      obtain ⟨i1, i2⟩ := runT_all f p N hp hl k (f zs bad).2.1 (f zs bad).2.2 (by omega)
      refine ⟨fun x hx => ?_, by rw [List.length_cons]; omega⟩
      rcases List.mem_cons.1 hx with rfl | hx
      · exact hp zs bad hN
      · exact i1 x hx
theorem strNums_size (zs : List Int) : (strOfNums zs).size = zs.length := by
  show (List.toArray _).size = _
  simp
theorem tkT_all {α : Type} (f : List Int → Bool → α × List Int × Bool) (p : α → Prop) (N : Nat) (hp : ∀ zs bad, zs.length ≤ N → p (f zs bad).1) (hl : ∀ zs bad, 0 < zs.length → (f zs bad).2.1.length < zs.length) (s : List Int × Bool) (hs : s.1.length ≤ N) : (∀ x ∈ tkT f s, p x) ∧ (tkT f s).length ≤ N := by
  have h := inL_len s.1
  obtain ⟨a, b⟩ := runT_all f p N hp hl (inL s.1).1.length (inL s.1).1 (inL s.1).2 (by omega)
  exact ⟨a, by unfold tkT; omega⟩
theorem textT_size (zs : List Int) (bad : Bool) : (textT zs bad).1.size ≤ zs.length := by
  unfold textT; dsimp only; rw [strNums_size]; exact bodP_fst_le ..
theorem needT_size (zs : List Int) (bad : Bool) : (needT zs bad).1.name.size ≤ zs.length ∧ (needT zs bad).1.ver.size ≤ zs.length := by
  unfold needT
  dsimp only
  rw [strNums_size, strNums_size]
  have h1 := (bodP_le mxI zs bad).1
  have h2 := numP_len mxI (bodP mxI zs bad).2.1 (bodP mxI zs bad).2.2
  have h3 := bodP_fst_le mxI (numP mxI (bodP mxI zs bad).2.1 (bodP mxI zs bad).2.2).2.1 (numP mxI (bodP mxI zs bad).2.1 (bodP mxI zs bad).2.2).2.2
  exact ⟨bodP_fst_le .., by omega⟩
theorem fileT_size (zs : List Int) (bad : Bool) : (fileT zs bad).1.1.size ≤ zs.length ∧ (fileT zs bad).1.2.2.length ≤ zs.length := by
  unfold fileT
  dsimp only
  rw [strNums_size]
  have h1 := (bodP_le mxI zs bad).1
  have h2 := numP_len 1 (bodP mxI zs bad).2.1 (bodP mxI zs bad).2.2
  have h3 := bodP_fst_le mxI (numP 1 (bodP mxI zs bad).2.1 (bodP mxI zs bad).2.2).2.1 (numP 1 (bodP mxI zs bad).2.1 (bodP mxI zs bad).2.2).2.2
  exact ⟨bodP_fst_le .., by omega⟩
theorem says_fits {zs : List Int} {D : PkgD} (h : Says zs D) (hz : zs.length ≤ 1000000) : Fits D := by
  obtain ⟨l1, l2, l3, l4, l5⟩ := un_len zs
  obtain ⟨q1, q2, q3, q4, q5, q6⟩ := h
  have t3 := tkT_all needT (fun n => n.name.size ≤ 1000000 ∧ n.ver.size ≤ 1000000) 1000000 (fun ys bad hy => by have := needT_size ys bad; omega) needT_len (un2 zs) (by omega)
  have t4 := tkT_all textT (fun s => s.size ≤ 1000000) 1000000 (fun ys bad hy => by have := textT_size ys bad; omega) textT_len (un3 zs) (by omega)
  have t5 := tkT_all fileT (fun t => t.1.size ≤ 1000000 ∧ t.2.2.length ≤ 1000000) 1000000 (fun ys bad hy => by have := fileT_size ys bad; omega) fileT_len (un4 zs) (by omega)
  have t6 := tkT_all textT (fun s => s.size ≤ 1000000) 1000000 (fun ys bad hy => by have := textT_size ys bad; omega) textT_len (un5 zs) (by omega)
  have n1 : D.name.size ≤ 1000000 := by rw [q1, strNums_size]; have := bodP_fst_le mxI zs false; omega
  have n2 : D.ver.size ≤ 1000000 := by rw [q2, strNums_size]; have := bodP_fst_le mxI (un1 zs).1 (un1 zs).2; omega
  rw [← q3] at t3
  rw [← q4] at t4
  rw [← q5] at t5
  rw [← q6] at t6
  rw [List.length_map] at t5
  refine ⟨n1, n2, t3.2, t3.1, t4.2, t4.1, t5.2, fun f hf => ?_, t6.2, t6.1⟩
  exact t5.1 (trip f) (List.mem_map_of_mem hf)
end Go.Proofs.YtihnjhigemhknaaGreatDoor
end

/- The document's own answer for the sum as plain functions on lists of noughts and ones, and that it is the program's sum. No condition but that bytes are bytes. -/
section
namespace Go.Proofs.YtihnjhigemhknaaGreatDoor.Cr
set_option linter.unusedVariables false
set_option linter.unusedSimpArgs false
open Go.RowKit

def bitAt (x : Int) (j : Nat) : Int := (x / 2 ^ j).tmod 2
def bitsTo (x : Int) (j : Nat) : List Int := (List.range j).map (bitAt x)
def allBits (zs : List Int) : List Int := zs.flatMap fun x => bitsTo x 8

theorem allBits_take (zs : List Int) (k : Nat) (h : k < zs.length) : allBits (zs.take (k + 1)) = allBits (zs.take k) ++ bitsTo zs[k] 8 := by
  unfold allBits
  rw [List.take_add_one, List.getElem?_eq_getElem h, List.flatMap_append]
  simp
theorem bitsTo_length (x : Int) (j : Nat) : (bitsTo x j).length = j := by simp [bitsTo]
theorem allBits_length : ∀ zs : List Int, (allBits zs).length = 8 * zs.length
  | [] => rfl
  | z :: zs => by
    have := allBits_length zs
    simp only [allBits, List.flatMap_cons, List.length_append, bitsTo_length, List.length_cons] at this ⊢
    omega
theorem bitsTo_succ (x : Int) (j : Nat) : bitsTo x (j + 1) = bitsTo x j ++ [bitAt x j] := by
  unfold bitsTo
  rw [List.range_succ, List.map_append]
  rfl

/-- The bit i of a list. -/
def at0 (L : List Int) (i : Nat) : Int := L.getD i 0
/-- The first i turned. -/
def flipTo (L : List Int) : Nat → List Int
  | 0 => L
  | i + 1 => (flipTo L i).set i (1 - at0 (flipTo L i) i)
def poly : List Int := [1, 0, 0, 0, 0, 0, 1, 0, 0, 1, 1, 0, 0, 0, 0, 0, 1, 0, 0, 0, 1, 1, 1, 0, 1, 1, 0, 1, 1, 0, 1, 1, 1]
/-- The polynomial's first j added from k on. -/
def addTo (L : List Int) (k : Nat) : Nat → List Int
  | 0 => L
  | j + 1 => (addTo L k j).set (k + j) ((at0 (addTo L k j) (k + j) + at0 poly j).tmod 2)
def divTo (L : List Int) : Nat → List Int
  | 0 => L
  | k + 1 => if at0 (divTo L k) k = 1 then addTo (divTo L k) k 33 else divTo L k
def outTo (L : List Int) (n : Nat) : Nat → BitVec 32
  | 0 => 0
  | j + 1 => outTo L n j + BitVec.ofInt 32 (1 - at0 L (n + j)) <<< j
def refSum (zs : List Int) : BitVec 32 := outTo (divTo (flipTo (allBits zs ++ List.replicate 32 0) 32) (8 * zs.length)) (8 * zs.length) 32

/-! ### Lengths; noughts and ones -/
theorem flipTo_length (L : List Int) (i : Nat) : (flipTo L i).length = L.length := by
  induction i with
  | zero => rfl
  | succ i ih => rw [flipTo, List.length_set, ih]
theorem addTo_length (L : List Int) (k j : Nat) : (addTo L k j).length = L.length := by
  induction j with
  | zero => rfl
  | succ j ih => rw [addTo, List.length_set, ih]
theorem divTo_length (L : List Int) (k : Nat) : (divTo L k).length = L.length := by
  induction k with
  | zero => rfl
  | succ k ih => rw [divTo]; split <;> simp [addTo_length, ih]
def Bits (L : List Int) : Prop := ∀ i, at0 L i = 0 ∨ at0 L i = 1
theorem at0_set (L : List Int) (i j : Nat) (x : Int) : at0 (L.set i x) j = if i = j ∧ i < L.length then x else at0 L j := by
  unfold at0
  rw [List.getD_eq_getElem?_getD, List.getElem?_set, List.getD_eq_getElem?_getD]
  by_cases h : i = j
  · subst h
    by_cases hl : i < L.length
    · simp [hl]
    · simp [hl]
  · simp [h]
theorem Bits.set {L : List Int} (h : Bits L) (i : Nat) {x : Int} (hx : x = 0 ∨ x = 1) : Bits (L.set i x) := by
  intro j
  rw [at0_set]
  split
  · exact hx
  · exact h j
theorem Bits.flipTo {L : List Int} (h : Bits L) (i : Nat) : Bits (flipTo L i) := by
  induction i with
  | zero => exact h
  | succ i ih => exact ih.set i (by have := ih i; omega)
theorem tmod2 (x : Int) (h : 0 ≤ x) : x.tmod 2 = 0 ∨ x.tmod 2 = 1 := by
  rw [Int.tmod_eq_emod_of_nonneg h]; omega
theorem bits_poly : Bits poly := by
  intro i
  by_cases h : i < 33
  · have : ∀ i, i < 33 → at0 poly i = 0 ∨ at0 poly i = 1 := by decide
    exact this i h
  · left
    unfold at0
    rw [List.getD_eq_getElem?_getD, List.getElem?_eq_none (by simp [poly]; omega)]
    rfl
theorem Bits.addTo {L : List Int} (h : Bits L) (k j : Nat) : Bits (addTo L k j) := by
  induction j with
  | zero => exact h
  | succ j ih => exact ih.set _ (tmod2 _ (by have := ih (k + j); have := bits_poly j; omega))
theorem Bits.divTo {L : List Int} (h : Bits L) (k : Nat) : Bits (divTo L k) := by
  induction k with
  | zero => exact h
  | succ k ih => rw [Cr.divTo]; split; exact ih.addTo k 33; exact ih
theorem at0_app (A B : List Int) (i : Nat) : at0 (A ++ B) i = if i < A.length then at0 A i else at0 B (i - A.length) := by
  unfold at0
  simp only [List.getD_eq_getElem?_getD, List.getElem?_append]
  split <;> rfl
theorem bits_iff (L : List Int) : Bits L ↔ ∀ x ∈ L, x = 0 ∨ x = 1 := by
  constructor
  · intro h x hx
    obtain ⟨i, hi, rfl⟩ := List.getElem_of_mem hx
    have := h i
    simpa [at0, List.getD_eq_getElem?_getD, List.getElem?_eq_getElem hi] using this
  · intro h i
    unfold at0
    rw [List.getD_eq_getElem?_getD]
    by_cases hi : i < L.length
    · rw [List.getElem?_eq_getElem hi]; exact h _ (List.getElem_mem hi)
    · rw [List.getElem?_eq_none (by omega)]; exact .inl rfl
theorem Bits.all (zs : List Int) (hz : ∀ x ∈ zs, 0 ≤ x ∧ x < 256) : Bits (allBits zs ++ List.replicate 32 0) := by
  rw [bits_iff]
  intro x hx
  rw [List.mem_append] at hx
  rcases hx with hx | hx
  · simp only [allBits, bitsTo, List.mem_flatMap, List.mem_map] at hx
    obtain ⟨z, hzm, j, _, rfl⟩ := hx
    exact tmod2 _ (Int.ediv_nonneg (hz z hzm).1 (by exact Int.le_of_lt (Int.pow_pos (by decide))))
  · rw [List.mem_replicate] at hx; exact .inl hx.2

/-! ### What the entries are -/
theorem at0_flipTo (L : List Int) (i j : Nat) (hi : i ≤ L.length) : at0 (flipTo L i) j = if j < i then 1 - at0 L j else at0 L j := by
  induction i with
  | zero => simp [flipTo]
  | succ i ih =>
    have ih := ih (by omega)
    rw [flipTo, at0_set, flipTo_length]
    by_cases h : i = j
    · subst h
      rw [if_pos ⟨rfl, by omega⟩, if_pos (by omega), ih, if_neg (by omega)]
    · rw [if_neg (by omega), ih]
      by_cases h2 : j < i
      · rw [if_pos h2, if_pos (by omega)]
      · rw [if_neg h2, if_neg (by omega)]
theorem at0_addTo (L : List Int) (k j i : Nat) (hk : k + j ≤ L.length) : at0 (addTo L k j) i = if k ≤ i ∧ i < k + j then (at0 L i + at0 poly (i - k)).tmod 2 else at0 L i := by
  induction j with
  | zero => rw [addTo, if_neg (by omega)]
  | succ j ih =>
    have ih := ih (by omega)
    rw [addTo, at0_set, addTo_length]
    by_cases h : k + j = i
    · subst h
      rw [if_pos ⟨rfl, by omega⟩, if_pos (by omega)]
      have e : at0 (addTo L k j) (k + j) = at0 L (k + j) := by
        clear ih
        induction j with
        | zero => rfl
        | succ j ih => 
          have : ∀ m, m ≤ j + 1 → at0 (addTo L k m) (k + (j + 1)) = at0 L (k + (j + 1)) := by
            intro m hm
            induction m with
            | zero => rfl
            | succ m ihm => rw [addTo, at0_set, if_neg (by omega), ihm (by omega)]
          exact this _ (Nat.le_refl _)
      rw [e]; congr 3; omega
    · rw [if_neg (by omega), ih]
      by_cases h2 : k ≤ i ∧ i < k + j
      · rw [if_pos h2, if_pos (by omega)]
      · rw [if_neg h2, if_neg (by omega)]

/-! ### Bit by bit -/
def b2i (b : Bool) : Int := if b then 1 else 0
def i2b (x : Int) : Bool := decide (x = 1)
theorem nx_bit (s : BitVec 32) (i : Nat) (hi : i < 32) : (nx s).getLsbD i = (s.getLsbD (i + 1) ^^ (s.getLsbD 0 && (3988292384#32).getLsbD i)) := by
  have hm : (-(s &&& 1#32)).getLsbD i = s.getLsbD 0 := by
    have h1 : s &&& 1#32 = if s.getLsbD 0 then 1#32 else 0#32 := by
      apply BitVec.eq_of_getLsbD_eq
      intro j hj
      rw [BitVec.getLsbD_and]
      by_cases h0 : j = 0
      · subst h0; cases s.getLsbD 0 <;> simp
      · have : (1#32).getLsbD j = false := by simp [h0]
        rw [this]; cases s.getLsbD 0 <;> simp [h0]
    rw [h1]
    have e1 : -1#32 = BitVec.allOnes 32 := by decide
    cases h : s.getLsbD 0
    · rw [if_neg (by decide)]; simp
    · rw [if_pos rfl, e1, BitVec.getLsbD_allOnes]; exact decide_eq_true hi
  unfold nx
  rw [BitVec.getLsbD_xor, BitVec.getLsbD_and, hm, BitVec.getLsbD_ushiftRight, Nat.add_comm 1 i, Bool.and_comm]
/-- One bit of the message. -/
def sb (s : BitVec 32) (m : Int) : BitVec 32 := nx (s ^^^ if i2b m then 1#32 else 0#32)
theorem one_bit (b : Bool) (i : Nat) : (if b then 1#32 else 0#32 : BitVec 32).getLsbD i = (b && decide (i = 0)) := by
  cases b <;> simp
theorem sb_bit (s : BitVec 32) (m : Int) (i : Nat) (hi : i < 32) : (sb s m).getLsbD i = (s.getLsbD (i + 1) ^^ ((s.getLsbD 0 ^^ i2b m) && (3988292384#32).getLsbD i)) := by
  unfold sb
  rw [nx_bit _ _ hi, BitVec.getLsbD_xor, BitVec.getLsbD_xor, one_bit, one_bit]
  simp
theorem xor_swap (a b c : Bool) : ((a ^^ b) ^^ c) = ((a ^^ c) ^^ b) := by cases a <;> cases b <;> cases c <;> rfl
theorem nx_parts (x y : BitVec 32) : nx (x ^^^ y) = nx (x ^^^ if y.getLsbD 0 then 1#32 else 0#32) ^^^ (y >>> 1) := by
  apply BitVec.eq_of_getLsbD_eq
  intro i hi
  rw [BitVec.getLsbD_xor, nx_bit _ _ hi, nx_bit _ _ hi, BitVec.getLsbD_xor, BitVec.getLsbD_xor, BitVec.getLsbD_xor, BitVec.getLsbD_xor, one_bit, one_bit, BitVec.getLsbD_ushiftRight, Nat.add_comm 1 i]
  have d1 : decide (i + 1 = 0) = false := by simp
  have d2 : decide (0 = 0) = true := by simp
  rw [d1, d2, Bool.and_false, Bool.and_true, Bool.xor_false]
  exact xor_swap _ _ _
def ser (s : BitVec 32) (ms : List Int) : BitVec 32 := ms.foldl sb s
theorem bitAt_b (b : Int) (j : Nat) (h0 : 0 ≤ b) (h : b < 4294967296) : i2b (bitAt b j) = (BitVec.ofInt 32 b).getLsbD j := by
  obtain ⟨n, rfl⟩ := Int.eq_ofNat_of_zero_le h0
  have hn : n < 4294967296 := by omega
  have e : bitAt (n : Int) j = ((n / 2 ^ j % 2 : Nat) : Int) := by
    unfold bitAt
    rw [Int.tmod_eq_emod_of_nonneg (Int.ediv_nonneg h0 (Int.le_of_lt (Int.pow_pos (by decide))))]
    simp
  rw [e, BitVec.ofInt_natCast, BitVec.getLsbD_ofNat, Nat.testBit_eq_decide_div_mod_eq]
  unfold i2b
  by_cases hj : j < 32
  · rw [decide_eq_true hj, Bool.true_and]
    generalize n / 2 ^ j % 2 = q
    exact decide_eq_decide.2 (by omega)
  · have h2 : 4294967296 ≤ 2 ^ j := Nat.pow_le_pow_right (n := 2) (by decide) (by omega : 32 ≤ j)
    have : n / 2 ^ j = 0 := Nat.div_eq_of_lt (by omega)
    simp [this, hj]
theorem nxs_ser (s : BitVec 32) (b : Int) (h0 : 0 ≤ b) (h : b < 4294967296) (k : Nat) : nxs k (s ^^^ BitVec.ofInt 32 b) = ser s (bitsTo b k) ^^^ (BitVec.ofInt 32 b >>> k) := by
  induction k with
  | zero => simp [nxs, ser, bitsTo]
  | succ k ih =>
    rw [nxs, ih, nx_parts, bitsTo_succ]
    unfold ser
    rw [List.foldl_append]
    show _ = sb _ _ ^^^ _
    unfold sb
    rw [BitVec.getLsbD_ushiftRight, Nat.add_zero, bitAt_b b k h0 h]
    congr 1
theorem nextB_ser (s : BitVec 32) (b : Int) (h0 : 0 ≤ b) (h : b < 256) : nextB s b = ser s (bitsTo b 8) := by
  unfold nextB
  rw [nxs_ser s b h0 (by omega) 8]
  have : BitVec.ofInt 32 b >>> 8 = 0#32 := by
    apply BitVec.eq_of_toNat_eq
    have e := toNat_ofInt b h0 (by omega)
    rw [BitVec.toNat_ushiftRight, Nat.shiftRight_eq_div_pow]
    have : (BitVec.ofInt 32 b).toNat < 256 := by omega
    simp
    omega
  rw [this]; simp
theorem rest_ser (s : BitVec 32) (zs : List Int) (hz : ∀ x ∈ zs, 0 ≤ x ∧ x < 256) : rest s zs = ser s (allBits zs) := by
  induction zs generalizing s with
  | nil => rfl
  | cons z zs ih =>
    have hz1 := hz z (by simp)
    show rest (nextB s z) zs = ser s (bitsTo z 8 ++ allBits zs)
    rw [ih _ (fun x hx => hz x (by simp [hx])), nextB_ser s z hz1.1 hz1.2]
    unfold ser
    rw [List.foldl_append]
end Go.Proofs.YtihnjhigemhknaaGreatDoor.Cr
end

/- The sum's steps are linear, and no step forgets anything. No condition but that bytes are bytes. -/
section
namespace Go.Proofs.YtihnjhigemhknaaGreatDoor.Cr
set_option linter.unusedVariables false
set_option linter.unusedSimpArgs false
open Go.RowKit
set_option linter.unusedVariables false

/-- Two bytes turned by each other. -/
def bx (b c : Int) : Int := ((b.toNat ^^^ c.toNat : Nat) : Int)
theorem bx_byte (b c : Int) (hb : b < 256) (hc : c < 256) : 0 ≤ bx b c ∧ bx b c < 256 := by
  have : b.toNat ^^^ c.toNat < 2 ^ 8 := Nat.xor_lt_two_pow (by omega) (by omega)
  unfold bx
  omega
theorem bx_cancel (a b c : Int) (ha : 0 ≤ a) (hb : 0 ≤ b) : bx (bx a c) (bx b c) = bx a b := by
  unfold bx
  simp only [Int.toNat_natCast]
  rw [show a.toNat ^^^ c.toNat ^^^ (b.toNat ^^^ c.toNat) = a.toNat ^^^ b.toNat from by
    rw [Nat.xor_comm b.toNat, Nat.xor_assoc, ← Nat.xor_assoc c.toNat, Nat.xor_self, Nat.zero_xor]]
theorem bx_self (a : Int) : bx a a = 0 := by unfold bx; simp
theorem bx_inner (a c : Int) (hc : 0 ≤ c) : bx a (bx a c) = c := by
  unfold bx
  rw [Int.toNat_natCast, ← Nat.xor_assoc, Nat.xor_self, Nat.zero_xor]
  omega
theorem ofInt_bx (b c : Int) (hb0 : 0 ≤ b) (hb : b < 256) (hc0 : 0 ≤ c) (hc : c < 256) : BitVec.ofInt 32 (bx b c) = BitVec.ofInt 32 b ^^^ BitVec.ofInt 32 c := by
  obtain ⟨m, rfl⟩ := Int.eq_ofNat_of_zero_le hb0
  obtain ⟨n, rfl⟩ := Int.eq_ofNat_of_zero_le hc0
  unfold bx
  rw [BitVec.ofInt_natCast, BitVec.ofInt_natCast, BitVec.ofInt_natCast]
  apply BitVec.eq_of_toNat_eq
  rw [BitVec.toNat_xor, BitVec.toNat_ofNat, BitVec.toNat_ofNat, BitVec.toNat_ofNat, Int.toNat_natCast, Int.toNat_natCast]
  have : m ^^^ n < 2 ^ 8 := Nat.xor_lt_two_pow (by omega) (by omega)
  rw [Nat.mod_eq_of_lt (by omega : m < 2 ^ 32), Nat.mod_eq_of_lt (by omega : n < 2 ^ 32), Nat.mod_eq_of_lt (by omega)]

theorem nx_xor (s t : BitVec 32) : nx (s ^^^ t) = nx s ^^^ nx t := by
  apply BitVec.eq_of_getLsbD_eq
  intro i hi
  rw [BitVec.getLsbD_xor, nx_bit _ _ hi, nx_bit _ _ hi, nx_bit _ _ hi, BitVec.getLsbD_xor, BitVec.getLsbD_xor]
  cases s.getLsbD (i + 1) <;> cases t.getLsbD (i + 1) <;> cases s.getLsbD 0 <;> cases t.getLsbD 0 <;> cases (3988292384#32).getLsbD i <;> rfl
theorem nxs_xor (k : Nat) (s t : BitVec 32) : nxs k (s ^^^ t) = nxs k s ^^^ nxs k t := by
  induction k with
  | zero => rfl
  | succ k ih => rw [nxs, nxs, nxs, ih, nx_xor]
theorem nextB_xor (s t : BitVec 32) (b c : Int) (hb0 : 0 ≤ b) (hb : b < 256) (hc0 : 0 ≤ c) (hc : c < 256) : nextB s b ^^^ nextB t c = nextB (s ^^^ t) (bx b c) := by
  unfold nextB
  rw [← nxs_xor, ofInt_bx b c hb0 hb hc0 hc]
  congr 1
  rw [BitVec.xor_assoc, BitVec.xor_assoc, ← BitVec.xor_assoc (BitVec.ofInt 32 b), BitVec.xor_comm (BitVec.ofInt 32 b) t, BitVec.xor_assoc]
def bxs (x y : List Int) : List Int := List.zipWith bx x y
def Bytes (x : List Int) : Prop := ∀ n ∈ x, 0 ≤ n ∧ n < 256
theorem rest_xor (x y : List Int) (hx : Bytes x) (hy : Bytes y) (hl : x.length = y.length) (s t : BitVec 32) : rest s x ^^^ rest t y = rest (s ^^^ t) (bxs x y) := by
  induction x generalizing y s t with
  | nil =>
    cases y with
    | nil => rfl
    | cons c y => simp at hl
  | cons b x ih =>
    cases y with
    | nil => simp at hl
    | cons c y =>
      have hb := hx b (by simp)
      have hc := hy c (by simp)
      show rest (nextB s b) x ^^^ rest (nextB t c) y = rest (nextB (s ^^^ t) (bx b c)) (bxs x y)
      rw [ih y (fun n hn => hx n (by simp [hn])) (fun n hn => hy n (by simp [hn])) (by simpa using hl), nextB_xor s t b c hb.1 hb.2 hc.1 hc.2]
theorem crc_xor (x y : List Int) (hx : Bytes x) (hy : Bytes y) (hl : x.length = y.length) : crc x ^^^ crc y = rest 0 (bxs x y) := by
  unfold crc
  show _ = rest 0#32 _
  rw [← BitVec.xor_self (x := ones), ← rest_xor x y hx hy hl]
  apply BitVec.eq_of_getLsbD_eq
  intro i hi
  simp only [BitVec.getLsbD_xor, BitVec.getLsbD_not, hi, decide_true, Bool.true_and]
  cases (rest ones x).getLsbD i <;> cases (rest ones y).getLsbD i <;> rfl
theorem bxs_bytes (x y : List Int) (hx : Bytes x) (hy : Bytes y) : Bytes (bxs x y) := by
  intro n hn
  unfold bxs at hn
  rw [List.zipWith_eq_zipWith_take_min, List.mem_iff_getElem] at hn
  obtain ⟨i, hi, rfl⟩ := hn
  rw [List.getElem_zipWith]
  have h1 := hx _ (List.mem_of_mem_take (List.getElem_mem (by simp at hi ⊢; omega : i < (x.take (min x.length y.length)).length)))
  have h2 := hy _ (List.mem_of_mem_take (List.getElem_mem (by simp at hi ⊢; omega : i < (y.take (min x.length y.length)).length)))
  exact bx_byte _ _ h1.2 h2.2
/-- Rows of one length, turned alike. -/
theorem joins (x y b : List Int) (hx : Bytes x) (hy : Bytes y) (hb : Bytes b) (h1 : x.length = b.length) (h2 : y.length = b.length) : crc (bxs x b) ^^^ crc (bxs y b) = crc x ^^^ crc y := by
  rw [crc_xor _ _ (bxs_bytes x b hx hb) (bxs_bytes y b hy hb) (by simp [bxs]; omega), crc_xor x y hx hy (by omega)]
  congr 1
  unfold bxs
  apply List.ext_getElem
  · simp; omega
  · intro i h3 h4
    simp only [List.getElem_zipWith]
    simp at h3 h4
    exact bx_cancel _ _ _ (hx _ (List.getElem_mem _)).1 (hy _ (List.getElem_mem _)).1

/-! ### Nothing is forgotten -/
theorem nx_back (s : BitVec 32) (h : (nx s).toNat < 2 ^ 31) : s.toNat = 2 * (nx s).toNat := by
  have h31 : (nx s).getLsbD 31 = s.getLsbD 0 := by
    rw [nx_bit s 31 (by decide), BitVec.getLsbD_of_ge _ _ (by decide), Bool.false_xor]
    have : (3988292384#32).getLsbD 31 = true := by decide
    rw [this, Bool.and_true]
  have hf : (nx s).getLsbD 31 = false := by
    unfold BitVec.getLsbD
    exact Nat.testBit_lt_two_pow h
  have h0 : s.getLsbD 0 = false := by rw [← h31, hf]
  have e : nx s = s >>> 1 := by
    apply BitVec.eq_of_getLsbD_eq
    intro i hi
    rw [nx_bit s i hi, h0, Bool.false_and, Bool.xor_false, BitVec.getLsbD_ushiftRight, Nat.add_comm]
  have hb : s.toNat % 2 = 0 := by
    unfold BitVec.getLsbD at h0
    rw [Nat.testBit_zero] at h0
    have := of_decide_eq_false h0
    omega
  rw [e, BitVec.toNat_ushiftRight, Nat.shiftRight_eq_div_pow]
  omega
theorem nxs_back (k : Nat) (s : BitVec 32) (h : (nxs k s).toNat * 2 ^ k < 2 ^ 32) : s.toNat = (nxs k s).toNat * 2 ^ k := by
  induction k with
  | zero => simp [nxs]
  | succ k ih =>
    have hp : 0 < 2 ^ k := Nat.pow_pos (by decide)
    rw [nxs] at h ⊢
    rw [Nat.pow_succ] at h ⊢
    have h1 : (nx (nxs k s)).toNat < 2 ^ 31 := by
      have : (nx (nxs k s)).toNat * 1 ≤ (nx (nxs k s)).toNat * 2 ^ k := Nat.mul_le_mul_left _ hp
      rw [Nat.mul_comm (2 ^ k), ← Nat.mul_assoc, Nat.mul_right_comm] at h
      omega
    have hb := nx_back _ h1
    have e : (nxs k s).toNat * 2 ^ k = (nx (nxs k s)).toNat * (2 ^ k * 2) := by rw [hb, Nat.mul_comm (2 ^ k) 2, ← Nat.mul_assoc, Nat.mul_comm 2]
    rw [← e] at h ⊢
    exact ih h
theorem nextB_back (s : BitVec 32) (b : Int) (m : Nat) (hb0 : 0 ≤ b) (hb : b < 256) (hm : 8 ≤ m ∧ m ≤ 24 ∨ m = 0) (h : (nextB s b).toNat < 2 ^ m) : (s ^^^ BitVec.ofInt 32 b).toNat = 256 * (nextB s b).toNat := by
  have h' : (nextB s b).toNat < 2 ^ 24 := Nat.lt_of_lt_of_le h (Nat.pow_le_pow_right (n := 2) (by decide) (by omega))
  have := nxs_back 8 (s ^^^ BitVec.ofInt 32 b) (by unfold nextB at h'; omega)
  unfold nextB
  omega
theorem zero_of (s : BitVec 32) (h : s.toNat = 0) : s = 0#32 := BitVec.eq_of_toNat_eq (by simpa using h)
theorem byte_nat (b : Int) (h0 : 0 ≤ b) (h : b < 256) : ((BitVec.ofInt 32 b).toNat : Int) = b := toNat_ofInt b h0 (by omega)
/-- From s with b to s' alone: where both are small no bits meet. -/
theorem split_xor (s : BitVec 32) (b : Int) (q : Nat) (h0 : 0 ≤ b) (hb : b < 256) (h : (s ^^^ BitVec.ofInt 32 b).toNat = 256 * q) : s.toNat = 256 * q + b.toNat := by
  have e : s = (s ^^^ BitVec.ofInt 32 b) ^^^ BitVec.ofInt 32 b := by rw [BitVec.xor_assoc, BitVec.xor_self, BitVec.xor_zero]
  have hbn : (BitVec.ofInt 32 b).toNat = b.toNat := by have := byte_nat b h0 hb; omega
  rw [e, BitVec.toNat_xor, h, hbn]
  have : 256 * q + b.toNat = 256 * q ||| b.toNat := by
    rw [show 256 * q = q <<< 8 from by rw [Nat.shiftLeft_eq]; omega]
    exact Nat.shiftLeft_add_eq_or_of_lt (by omega) q
  rw [this]
  apply Nat.eq_of_testBit_eq
  intro i
  rw [Nat.testBit_xor, Nat.testBit_or]
  by_cases hi : i < 8
  · have : (256 * q).testBit i = false := by
      rw [show 256 * q = q <<< 8 from by rw [Nat.shiftLeft_eq]; omega, Nat.testBit_shiftLeft]
      simp; omega
    rw [this]; simp
  · have : b.toNat.testBit i = false := Nat.testBit_lt_two_pow (Nat.lt_of_lt_of_le (by omega : b.toNat < 2 ^ 8) (Nat.pow_le_pow_right (by decide) (by omega)))
    rw [this]; simp
theorem nextB_zero (s : BitVec 32) (b : Int) (h0 : 0 ≤ b) (hb : b < 256) (h : nextB s b = 0#32) : s.toNat = b.toNat := by
  have h1 := nextB_back s b 0 h0 hb (.inr rfl) (by rw [h]; decide)
  rw [h] at h1
  have := split_xor s b 0 h0 hb (by simpa using h1)
  omega
theorem four (b0 b1 b2 b3 : Int) (h0 : 0 ≤ b0 ∧ b0 < 256) (h1 : 0 ≤ b1 ∧ b1 < 256) (h2 : 0 ≤ b2 ∧ b2 < 256) (h3 : 0 ≤ b3 ∧ b3 < 256) (h : rest 0#32 [b0, b1, b2, b3] = 0#32) : b0 = 0 ∧ b1 = 0 ∧ b2 = 0 ∧ b3 = 0 := by
  have e : nextB (nextB (nextB (nextB 0#32 b0) b1) b2) b3 = 0#32 := h
  have k3 := nextB_zero (nextB (nextB (nextB 0#32 b0) b1) b2) b3 h3.1 h3.2 e
  have k2 := split_xor (nextB (nextB 0#32 b0) b1) b2 _ h2.1 h2.2 (nextB_back _ b2 8 h2.1 h2.2 (by omega) (by show _ < 256; omega))
  have k1 := split_xor (nextB 0#32 b0) b1 _ h1.1 h1.2 (nextB_back _ b1 16 h1.1 h1.2 (by omega) (by show _ < 65536; omega))
  have k0 := split_xor 0#32 b0 _ h0.1 h0.2 (nextB_back _ b0 24 h0.1 h0.2 (by omega) (by show _ < 16777216; omega))
  have z : (0#32 : BitVec 32).toNat = 0 := rfl
  omega
theorem rest_zeros (s : BitVec 32) (n : Nat) : rest s (List.replicate n 0) = 0#32 ↔ s = 0#32 := by
  induction n generalizing s with
  | zero => rfl
  | succ n ih =>
    show rest (nextB s 0) (List.replicate n 0) = 0#32 ↔ _
    rw [ih]
    constructor
    · intro h
      have := nextB_zero s 0 (by decide) (by decide) h
      exact zero_of s (by simpa using this)
    · rintro rfl
      decide +kernel
/-- Four bytes turned, from q on. -/
theorem tells (x c : List Int) (q : Nat) (b0 b1 b2 b3 : Int) (hx : Bytes x) (hc : Bytes c) (hl : c.length = x.length) (hq : q + 4 ≤ x.length) (h0 : 0 ≤ b0 ∧ b0 < 256) (h1 : 0 ≤ b1 ∧ b1 < 256) (h2 : 0 ≤ b2 ∧ b2 < 256) (h3 : 0 ≤ b3 ∧ b3 < 256)
    (he : ∀ i (hi : i < x.length) (hi' : i < c.length), c[i] = bx x[i] (if i = q then b0 else if i = q + 1 then b1 else if i = q + 2 then b2 else if i = q + 3 then b3 else 0)) :
    crc x = crc c ↔ b0 = 0 ∧ b1 = 0 ∧ b2 = 0 ∧ b3 = 0 := by
  have e : bxs x c = List.replicate q 0 ++ ([b0, b1, b2, b3] ++ List.replicate (x.length - q - 4) 0) := by
    apply List.ext_getElem
    · simp [bxs]; omega
    · intro i hi hi'
      have hix : i < x.length := by simp [bxs] at hi; omega
      have hxb := hx _ (List.getElem_mem hix)
      have e1 : (bxs x c)[i] = bx x[i] c[i] := by simp [bxs]
      rw [e1, he i hix (by omega), bx_inner _ _ (by split <;> (try split) <;> (try split) <;> (try split) <;> omega)]
      rw [List.getElem_append]
      by_cases c0 : i < q
      · rw [dif_pos (by simpa using c0), List.getElem_replicate, if_neg (by omega), if_neg (by omega), if_neg (by omega), if_neg (by omega)]
      · rw [dif_neg (by simpa using c0), List.getElem_append]
        by_cases c1 : i < q + 4
        · rw [dif_pos (by simp; omega)]
          have hcase : i = q ∨ i = q + 1 ∨ i = q + 2 ∨ i = q + 3 := by omega
          rcases hcase with rfl | rfl | rfl | rfl <;> simp
        · rw [dif_neg (by simp; omega), List.getElem_replicate, if_neg (by omega), if_neg (by omega), if_neg (by omega), if_neg (by omega)]
  have hd : crc x ^^^ crc c = rest 0#32 (bxs x c) := crc_xor x c hx hc hl.symm
  have e2 : rest 0#32 (bxs x c) = rest (rest (rest 0#32 (List.replicate q 0)) [b0, b1, b2, b3]) (List.replicate (x.length - q - 4) 0) := by
    rw [e]; unfold rest; rw [List.foldl_append, List.foldl_append]
  have hz : rest 0#32 (List.replicate q 0) = 0#32 := (rest_zeros _ _).2 rfl
  rw [e2, hz] at hd
  constructor
  · intro h
    rw [h, BitVec.xor_self] at hd
    exact four b0 b1 b2 b3 h0 h1 h2 h3 ((rest_zeros _ _).1 hd.symm)
  · rintro ⟨rfl, rfl, rfl, rfl⟩
    have : rest 0#32 [0, 0, 0, 0] = 0#32 := by decide +kernel
    rw [this, (rest_zeros 0#32 _).2 rfl] at hd
    have := congrArg (· ^^^ crc c) hd
    simpa [BitVec.xor_assoc] using this
end Go.Proofs.YtihnjhigemhknaaGreatDoor.Cr
end

/- Bytes with their own sum behind them have one and the same sum, whichever they are; so where up to four bytes in a row are turned the sum doesn't fit any more. -/
section
namespace Go.Proofs.YtihnjhigemhknaaGreatDoor
open Go.RowKit
set_option linter.unusedVariables false
set_option linter.unusedSimpArgs false

theorem nx_even (s : BitVec 32) (q : Nat) (h : s.toNat = 2 * q) : (nx s).toNat = q := by
  have e : s &&& 1#32 = 0#32 := by
    apply BitVec.eq_of_toNat_eq
    rw [BitVec.toNat_and]
    show s.toNat &&& 1 = 0
    rw [Nat.and_one_is_mod]; omega
  unfold nx
  rw [e, BitVec.neg_zero, BitVec.and_zero, BitVec.xor_zero, BitVec.toNat_ushiftRight, Nat.shiftRight_eq_div_pow]
  omega
theorem nxs_even : ∀ (k : Nat) (s : BitVec 32) (q : Nat), s.toNat = 2 ^ k * q → (nxs k s).toNat = q
  | 0, s, q, h => by show s.toNat = q; rw [h]; simp
  | k + 1, s, q, h => nx_even _ q (nxs_even k s (2 * q) (by rw [h, Nat.pow_succ, Nat.mul_assoc]))
theorem low_off (t : BitVec 32) (b : Int) (q : Nat) (h0 : 0 ≤ b) (hb : b < 256) (h : t.toNat = 256 * q + b.toNat) : (t ^^^ BitVec.ofInt 32 b).toNat = 256 * q := by
  have ht := t.isLt
  have hq : (BitVec.ofNat 32 (256 * q)).toNat = 256 * q := by rw [BitVec.toNat_ofNat]; exact Nat.mod_eq_of_lt (by omega)
  have hu := Cr.split_xor (BitVec.ofNat 32 (256 * q) ^^^ BitVec.ofInt 32 b) b q h0 hb (by rw [BitVec.xor_assoc, BitVec.xor_self, BitVec.xor_zero]; exact hq)
  have e : BitVec.ofNat 32 (256 * q) ^^^ BitVec.ofInt 32 b = t := BitVec.eq_of_toNat_eq (by rw [hu, h])
  rw [← e, BitVec.xor_assoc, BitVec.xor_self, BitVec.xor_zero]
  exact hq
theorem nextB_low (t : BitVec 32) (b : Int) (q : Nat) (h0 : 0 ≤ b) (hb : b < 256) (h : t.toNat = 256 * q + b.toNat) : (nextB t b).toNat = q :=
  nxs_even 8 _ q (low_off t b q h0 hb h)
theorem rest_own (t : BitVec 32) : rest t (le4 (t.toNat : Int)) = 0#32 := by
  have ht := t.isLt
  unfold rest le4
  simp only [List.foldl_cons, List.foldl_nil]
  have h1 := nextB_low t ((t.toNat : Int) % 256) (t.toNat / 256) (by omega) (by omega) (by omega)
  generalize nextB t ((t.toNat : Int) % 256) = t1 at *
  have h2 := nextB_low t1 ((t.toNat : Int) / 256 % 256) (t.toNat / 65536) (by omega) (by omega) (by omega)
  generalize nextB t1 ((t.toNat : Int) / 256 % 256) = t2 at *
  have h3 := nextB_low t2 ((t.toNat : Int) / 65536 % 256) (t.toNat / 16777216) (by omega) (by omega) (by omega)
  generalize nextB t2 ((t.toNat : Int) / 65536 % 256) = t3 at *
  have h4 := nextB_low t3 ((t.toNat : Int) / 16777216) 0 (by omega) (by omega) (by omega)
  exact Cr.zero_of _ h4
theorem byts_cr {x : List Int} (h : Byts x) : Cr.Bytes x := fun n hn => h n hn
theorem rest_le4 (s t : BitVec 32) : rest s (le4 (t.toNat : Int)) = rest (s ^^^ t) [0, 0, 0, 0] := by
  have hb : Cr.Bytes (le4 (t.toNat : Int)) := byts_cr (le4_byts _ (by omega) (by have := t.isLt; omega))
  have h := Cr.rest_xor (le4 (t.toNat : Int)) (le4 (t.toNat : Int)) hb hb rfl s t
  have e : Cr.bxs (le4 (t.toNat : Int)) (le4 (t.toNat : Int)) = [0, 0, 0, 0] := by
    unfold Cr.bxs le4
    simp only [List.zipWith_cons_cons, List.zipWith_nil_left, Cr.bx_self]
  rw [rest_own, BitVec.xor_zero, e] at h
  exact h
/-- The sum that all bytes with their own sum behind them have. -/
def sumFix : BitVec 32 := ~~~ rest (BitVec.allOnes 32) [0, 0, 0, 0]
theorem crc_own (x : List Int) : crc (x ++ le4 (crcI x)) = sumFix := by
  have e : rest ones (x ++ le4 (crcI x)) = rest (rest ones x) (le4 (crcI x)) := by unfold rest; rw [List.foldl_append]
  unfold crc
  rw [e]
  show ~~~ rest (rest ones x) (le4 (((crc x).toNat : Nat) : Int)) = _
  rw [rest_le4]
  have e2 : rest ones x ^^^ crc x = BitVec.allOnes 32 := by
    unfold crc
    generalize rest ones x = s
    rw [← BitVec.allOnes_xor, BitVec.xor_comm (BitVec.allOnes 32), ← BitVec.xor_assoc, BitVec.xor_self, BitVec.zero_xor]
  rw [e2]
  rfl
/-- The sum that lies behind the other bytes is theirs. -/
def sumFits (zs : List Int) : Prop := le4 (crcI (zs.take (zs.length - 4))) = zs.drop (zs.length - 4)
theorem crc_fits {zs : List Int} (h : sumFits zs) : crc zs = sumFix := by
  have e : zs = zs.take (zs.length - 4) ++ le4 (crcI (zs.take (zs.length - 4))) := by rw [h, List.take_append_drop]
  rw [e]
  exact crc_own _
theorem fits_own (x : List Int) : sumFits (x ++ le4 (crcI x)) := by
  have hl : (x ++ le4 (crcI x)).length - 4 = x.length := by rw [List.length_append]; show x.length + 4 - 4 = _; omega
  unfold sumFits
  rw [hl, List.take_left' rfl, List.drop_left' rfl]
end Go.Proofs.YtihnjhigemhknaaGreatDoor
end

/- Small: what it asks of a package. -/
section
namespace Go.Proofs.YtihnjhigemhknaaGreatDoor
open Go.RowKit
set_option linter.unusedVariables false
set_option linter.unusedSimpArgs false
set_option maxRecDepth 100000

/-- A package that is small. -/
structure SmallD (D : PkgD) : Prop where
  name : D.name.size ≤ 60
  ver : D.ver.size ≤ 60
  needs : D.needs.length ≤ 20
  need : ∀ n ∈ D.needs, n.name.size ≤ 60 ∧ n.ver.size ≤ 60
  confs : D.confs.length ≤ 20
  conf : ∀ s ∈ D.confs, s.size ≤ 60
  files : D.files.length ≤ 20
  file : ∀ f ∈ D.files, f.path.size ≤ 60 ∧ f.data.length ≤ 600
  units : D.units.length ≤ 20
  unit : ∀ s ∈ D.units, s.size ≤ 400
theorem SmallD.fits {D : PkgD} (h : SmallD D) : Fits D :=
  ⟨by have := h.name; omega, by have := h.ver; omega, by have := h.needs; omega, fun n hn => by have := h.need n hn; omega, by have := h.confs; omega, fun n hn => by have := h.conf n hn; omega, by have := h.files; omega, fun n hn => by have := h.file n hn; omega, by have := h.units; omega, fun n hn => by have := h.unit n hn; omega⟩
/-- A package as it may come in: no length is greater than what a machine has. -/
structure RoomD (D : PkgD) : Prop where
  name : D.name.size ≤ maxLen
  ver : D.ver.size ≤ maxLen
  needs : D.needs.length ≤ maxLen
  need : ∀ n ∈ D.needs, n.name.size ≤ maxLen ∧ n.ver.size ≤ maxLen
  confs : D.confs.length ≤ maxLen
  conf : ∀ s ∈ D.confs, s.size ≤ maxLen
  files : D.files.length ≤ maxLen
  file : ∀ f ∈ D.files, f.path.size ≤ maxLen ∧ f.data.length ≤ maxLen
  units : D.units.length ≤ maxLen
  unit : ∀ s ∈ D.units, s.size ≤ maxLen
theorem small_flat {D : PkgD} (h : SmallD D) : (D.needs.map packN).flatten.length ≤ 16777216 ∧ (D.confs.map textL).flatten.length ≤ 16777216 ∧ (D.files.map packF).flatten.length ≤ 16777216 ∧ (D.units.map textL).flatten.length ≤ 16777216 := by
  have a := flat_le packN 1000 D.needs (fun n hn => by have := h.need n hn; unfold packN; rw [List.length_append, List.length_append, sizedL_length, sizedL_length, sb_length, sb_length]; show _ + (4 + _) ≤ _; omega)
  have b := flat_le textL 1000 D.confs (fun n hn => by have := h.conf n hn; rw [textL_len]; omega)
  have c := flat_le packF 1000 D.files (fun n hn => by have := h.file n hn; unfold packF; rw [List.length_append, List.length_append, sizedL_length, sizedL_length, sb_length]; show _ + (4 + _) ≤ _; omega)
  have d := flat_le textL 1000 D.units (fun n hn => by have := h.unit n hn; rw [textL_len]; omega)
  have h1 := h.needs
  have h2 := h.confs
  have h3 := h.files
  have h4 := h.units
  refine ⟨?_, ?_, ?_, ?_⟩ <;> omega
theorem below_mem {α : Type} {xs : List α} {p : α → Prop} {k : Nat} (hk : k < xs.length) (h : ∀ i (hi : i < k) (h2 : i < xs.length), p xs[i]) (hx : p xs[k]) : ∀ i (hi : i < k + 1) (h2 : i < xs.length), p xs[i] := fun i hi h2 => by
  rcases Nat.lt_succ_iff_lt_or_eq.1 hi with h3 | h3
  · exact h i h3 h2
  · subst h3; exact hx
theorem all_mem {α : Type} {xs : List α} {p : α → Prop} (h : ∀ i (hi : i < xs.length) (h2 : i < xs.length), p xs[i]) : ∀ x ∈ xs, p x := fun x hx => by
  obtain ⟨i, hi, rfl⟩ := List.getElem_of_mem hx
  exact h i hi hi
set_option maxHeartbeats 16000000 in
theorem small_any (D : PkgD) (P : PkL) (w : World) (hD : PkAt w D P) (hr : RoomD D) :
    Calls Tryz.prog 7 #[.agg #[.string D.name, .string D.ver, .slice P.an D.needs.length P.cn, .slice P.ac D.confs.length P.cc, .slice P.af D.files.length P.cf, .slice P.au D.units.length P.cu]] w fun e w' => (e = .returned (.int .i64 0) ∨ e = .returned (.int .i64 1) ∧ SmallD D) ∧ Below w.heap.size w w' := by
  have HX := Lib.hid (show Own w _ [rowPk w.heap.size D P] from (Own.start w).box6 (.string D.name) (.string D.ver) (.slice P.an D.needs.length P.cn) (.slice P.ac D.confs.length P.cc) (.slice P.af D.files.length P.cf) (.slice P.au D.units.length P.cu) 26)
  have HD := Lib.hid hD
  have HR := Lib.hid hr
  have r0 := hr.name
  have r1 := hr.ver
  have r2 := hr.needs
  have r3 := hr.confs
  have r4 := hr.files
  have r5 := hr.units
  unfold maxLen at r0 r1 r2 r3 r4 r5
  clear hD hr
  by_cases hall : D.name.size ≤ 60 ∧ D.ver.size ≤ 60 ∧ D.needs.length ≤ 20 ∧ D.confs.length ≤ 20 ∧ D.files.length ≤ 20 ∧ D.units.length ≤ 20
  · have HA := Lib.hid hall
    obtain ⟨a0, a1, a2, a3, a4, a5⟩ := hall
    have i0 : ¬ (60 : Int) < (D.name.size : Int) := by omega
    have i1 : ¬ (60 : Int) < (D.ver.size : Int) := by omega
    have i2 : ¬ (20 : Int) < (D.needs.length : Int) := by omega
    have i3 : ¬ (20 : Int) < (D.confs.length : Int) := by omega
    have i4 : ¬ (20 : Int) < (D.files.length : Int) := by omega
    have i5 : ¬ (20 : Int) < (D.units.length : Int) := by omega
    clear a0 a1 r0 r1
    go_enter Tryz.func7, Tryz.ntmps7
    go_wp2_with fail
    clear i0 i1 i2 i3 i4 i5
    go_loopw [48] (fun iv wr => ∃ k : Nat, iv = .int .i64 k ∧ k ≤ D.needs.length ∧ Own w wr [rowPk w.heap.size D P] ∧ Hid (∀ i (hi : i < k) (h2 : i < D.needs.length), D.needs[i].name.size ≤ 60 ∧ D.needs[i].ver.size ≤ 60)) (fun iv _ => D.needs.length - (intOf iv).toNat)
    case atStart => exact ⟨0, rfl, Nat.zero_le _, HX.out, fun i hi => absurd hi (Nat.not_lt_zero _)⟩
    case round =>
      clear HX
      obtain ⟨k, rfl, hk, hO, HG⟩ := hrel
      have HO := Lib.hid hO
      clear hO
      by_cases hlt : k < D.needs.length
      · obtain ⟨g, o, hg, hr⟩ := HD.out.needs.later HO.out.below k (by rw [List.length_map]; exact hlt)
        rw [List.getElem_map] at hr
        have q0 := hr 0 _ rfl
        have q1 := hr 1 _ rfl
        have q2 := hr 2 _ rfl
        rw [Nat.add_zero] at q0
        have hm := HR.out.need _ (List.getElem_mem hlt)
        unfold maxLen at hm
        have HG2 := Lib.hid (fun h => below_mem (p := fun n : NeedD => n.name.size ≤ 60 ∧ n.ver.size ≤ 60) hlt HG.out h)
        clear hr HG
        generalize D.needs[k] = n at *
        obtain ⟨hm1, hm2⟩ := hm
        rw [hg]
        by_cases c0 : n.name.size ≤ 60
        · have j0 : ¬ (60 : Int) < (n.name.size : Int) := by omega
          by_cases c1 : n.ver.size ≤ 60
          · have j1 : ¬ (60 : Int) < (n.ver.size : Int) := by omega
            have HG3 := Lib.hid (HG2.out ⟨c0, c1⟩)
            clear HG2 c0 c1
            go_wp2_with fail
            go_roundw
            case rel => exact ⟨k + 1, by go_num, hlt, HO.out.alloc _, HG3.out⟩
            case measure => simp [intOf]; omega
          · have j1 : (60 : Int) < (n.ver.size : Int) := by omega
            clear HG2 c0 c1
            go_wp2_with fail
            go_ret
            exact ⟨.inl rfl, (HO.out.alloc _).below⟩
        · have j0 : (60 : Int) < (n.name.size : Int) := by omega
          clear HG2 c0
          go_wp2_with fail
          go_ret
          exact ⟨.inl rfl, (HO.out.alloc _).below⟩
      · obtain rfl : k = D.needs.length := by omega
        have HN := Lib.hid (all_mem (p := fun n : NeedD => n.name.size ≤ 60 ∧ n.ver.size ≤ 60) HG.out)
        clear HG
        obtain ⟨p0, p1, p2, p3, p4, p5⟩ := pk_cells HO.out (g := w.heap.size) (D := D) (P := P) (List.mem_cons_self ..)
        clear p0 p1 p2 p4 p5
        go_wp2_with fail
        clear p3
        go_loopw [66] (fun iv wq => ∃ k : Nat, iv = .int .i64 k ∧ k ≤ D.confs.length ∧ Own w wq [rowPk w.heap.size D P] ∧ Hid (∀ i (hi : i < k) (h2 : i < D.confs.length), D.confs[i].size ≤ 60)) (fun iv _ => D.confs.length - (intOf iv).toNat)
        case atStart => exact ⟨0, rfl, Nat.zero_le _, HO.out, fun i hi => absurd hi (Nat.not_lt_zero _)⟩
        case round =>
          clear HO
          obtain ⟨k, rfl, hk, hO, HG⟩ := hrel
          have HO := Lib.hid hO
          clear hO
          by_cases hlt : k < D.confs.length
          · obtain ⟨g, o, hg, hr⟩ := HD.out.confs.later HO.out.below k (by rw [List.length_map]; exact hlt)
            rw [List.getElem_map] at hr
            rw [Nat.mul_one] at hr
            have q0 := hr 0 _ rfl
            rw [Nat.add_zero] at q0
            have hm1 := HR.out.conf _ (List.getElem_mem hlt)
            unfold maxLen at hm1
            have HG2 := Lib.hid (fun h => below_mem (p := fun n : ByteArray => n.size ≤ 60) hlt HG.out h)
            clear hr HG
            generalize D.confs[k] = n at *
            rw [hg]
            by_cases c0 : n.size ≤ 60
            · have j0 : ¬ (60 : Int) < (n.size : Int) := by omega
              have HG3 := Lib.hid (HG2.out c0)
              clear HG2 c0
              go_wp2_with fail
              go_roundw
              case rel => exact ⟨k + 1, by go_num, hlt, HO.out, HG3.out⟩
              case measure => simp [intOf]; omega
            · have j0 : (60 : Int) < (n.size : Int) := by omega
              clear HG2 c0
              go_wp2_with fail
              go_ret
              exact ⟨.inl rfl, HO.out.below⟩
          · obtain rfl : k = D.confs.length := by omega
            have HC := Lib.hid (all_mem (p := fun n : ByteArray => n.size ≤ 60) HG.out)
            clear HG
            obtain ⟨p0, p1, p2, p3, p4, p5⟩ := pk_cells HO.out (g := w.heap.size) (D := D) (P := P) (List.mem_cons_self ..)
            clear p0 p1 p2 p3 p5
            go_wp2_with fail
            clear p4
            go_loopw [77] (fun iv wq => ∃ k : Nat, iv = .int .i64 k ∧ k ≤ D.files.length ∧ Own w wq [rowPk w.heap.size D P] ∧ Hid (∀ i (hi : i < k) (h2 : i < D.files.length), D.files[i].path.size ≤ 60 ∧ D.files[i].data.length ≤ 600)) (fun iv _ => D.files.length - (intOf iv).toNat)
            case atStart => exact ⟨0, rfl, Nat.zero_le _, HO.out, fun i hi => absurd hi (Nat.not_lt_zero _)⟩
            case round =>
              clear HO
              obtain ⟨k, rfl, hk, hO, HG⟩ := hrel
              have HO := Lib.hid hO
              clear hO
              by_cases hlt : k < D.files.length
              · obtain ⟨g, o, hg, hr⟩ := HD.out.files.later HO.out.below k (by rw [List.length_map]; exact hlt)
                rw [List.getElem_map] at hr
                have q0 := hr 0 _ rfl
                have q1 := hr 1 _ rfl
                have q2 := hr 2 _ rfl
                rw [Nat.add_zero] at q0
                have hm := HR.out.file _ (List.getElem_mem hlt)
                unfold maxLen at hm
                have HG2 := Lib.hid (fun h => below_mem (p := fun n : FileD => n.path.size ≤ 60 ∧ n.data.length ≤ 600) hlt HG.out h)
                clear hr HG
                generalize D.files[k] = n at *
                obtain ⟨hm1, hm2⟩ := hm
                rw [hg]
                by_cases c0 : n.path.size ≤ 60
                · have j0 : ¬ (60 : Int) < (n.path.size : Int) := by omega
                  by_cases c1 : n.data.length ≤ 600
                  · have j1 : ¬ (600 : Int) < (n.data.length : Int) := by omega
                    have HG3 := Lib.hid (HG2.out ⟨c0, c1⟩)
                    clear HG2 c0 c1
                    go_wp2_with fail
                    go_roundw
                    case rel => exact ⟨k + 1, by go_num, hlt, HO.out.alloc _, HG3.out⟩
                    case measure => simp [intOf]; omega
                  · have j1 : (600 : Int) < (n.data.length : Int) := by omega
                    clear HG2 c0 c1
                    go_wp2_with fail
                    go_ret
                    exact ⟨.inl rfl, (HO.out.alloc _).below⟩
                · have j0 : (60 : Int) < (n.path.size : Int) := by omega
                  clear HG2 c0
                  go_wp2_with fail
                  go_ret
                  exact ⟨.inl rfl, (HO.out.alloc _).below⟩
              · obtain rfl : k = D.files.length := by omega
                have HFl := Lib.hid (all_mem (p := fun n : FileD => n.path.size ≤ 60 ∧ n.data.length ≤ 600) HG.out)
                clear HG
                obtain ⟨p0, p1, p2, p3, p4, p5⟩ := pk_cells HO.out (g := w.heap.size) (D := D) (P := P) (List.mem_cons_self ..)
                clear p0 p1 p2 p3 p4
                go_wp2_with fail
                clear p5
                go_loopw [95] (fun iv wq => ∃ k : Nat, iv = .int .i64 k ∧ k ≤ D.units.length ∧ Own w wq [rowPk w.heap.size D P] ∧ Hid (∀ i (hi : i < k) (h2 : i < D.units.length), D.units[i].size ≤ 400)) (fun iv _ => D.units.length - (intOf iv).toNat)
                case atStart => exact ⟨0, rfl, Nat.zero_le _, HO.out, fun i hi => absurd hi (Nat.not_lt_zero _)⟩
                case round =>
                  clear HO
                  obtain ⟨k, rfl, hk, hO, HG⟩ := hrel
                  have HO := Lib.hid hO
                  clear hO
                  by_cases hlt : k < D.units.length
                  · obtain ⟨g, o, hg, hr⟩ := HD.out.units.later HO.out.below k (by rw [List.length_map]; exact hlt)
                    rw [List.getElem_map] at hr
                    rw [Nat.mul_one] at hr
                    have q0 := hr 0 _ rfl
                    rw [Nat.add_zero] at q0
                    have hm1 := HR.out.unit _ (List.getElem_mem hlt)
                    unfold maxLen at hm1
                    have HG2 := Lib.hid (fun h => below_mem (p := fun n : ByteArray => n.size ≤ 400) hlt HG.out h)
                    clear hr HG
                    generalize D.units[k] = n at *
                    rw [hg]
                    by_cases c0 : n.size ≤ 400
                    · have j0 : ¬ (400 : Int) < (n.size : Int) := by omega
                      have HG3 := Lib.hid (HG2.out c0)
                      clear HG2 c0
                      go_wp2_with fail
                      go_roundw
                      case rel => exact ⟨k + 1, by go_num, hlt, HO.out, HG3.out⟩
                      case measure => simp [intOf]; omega
                    · have j0 : (400 : Int) < (n.size : Int) := by omega
                      clear HG2 c0
                      go_wp2_with fail
                      go_ret
                      exact ⟨.inl rfl, HO.out.below⟩
                  · obtain rfl : k = D.units.length := by omega
                    have HU := Lib.hid (all_mem (p := fun n : ByteArray => n.size ≤ 400) HG.out)
                    clear HG
                    go_wp2_with fail
                    go_ret
                    exact ⟨.inr ⟨rfl, ⟨HA.out.1, HA.out.2.1, HA.out.2.2.1, HN.out, HA.out.2.2.2.1, HC.out, HA.out.2.2.2.2.1, HFl.out, HA.out.2.2.2.2.2, HU.out⟩⟩, HO.out.below⟩
  · have hcs : (60 : Int) < (D.name.size : Int) ∨ (¬ (60 : Int) < (D.name.size : Int) ∧ (60 : Int) < (D.ver.size : Int)) ∨ (¬ (60 : Int) < (D.name.size : Int) ∧ ¬ (60 : Int) < (D.ver.size : Int) ∧ (20 : Int) < (D.needs.length : Int)) ∨ (¬ (60 : Int) < (D.name.size : Int) ∧ ¬ (60 : Int) < (D.ver.size : Int) ∧ ¬ (20 : Int) < (D.needs.length : Int) ∧ (20 : Int) < (D.confs.length : Int)) ∨ (¬ (60 : Int) < (D.name.size : Int) ∧ ¬ (60 : Int) < (D.ver.size : Int) ∧ ¬ (20 : Int) < (D.needs.length : Int) ∧ ¬ (20 : Int) < (D.confs.length : Int) ∧ (20 : Int) < (D.files.length : Int)) ∨ (¬ (60 : Int) < (D.name.size : Int) ∧ ¬ (60 : Int) < (D.ver.size : Int) ∧ ¬ (20 : Int) < (D.needs.length : Int) ∧ ¬ (20 : Int) < (D.confs.length : Int) ∧ ¬ (20 : Int) < (D.files.length : Int) ∧ (20 : Int) < (D.units.length : Int)) := by omega
    clear hall
    rcases hcs with i0 | ⟨i0, i1⟩ | ⟨i0, i1, i2⟩ | ⟨i0, i1, i2, i3⟩ | ⟨i0, i1, i2, i3, i4⟩ | ⟨i0, i1, i2, i3, i4, i5⟩
    all_goals
      go_enter Tryz.func7, Tryz.ntmps7
      go_wp2_with fail
      go_ret
      exact ⟨.inl rfl, HX.out.below⟩
end Go.Proofs.YtihnjhigemhknaaGreatDoor
end

/- Read in one form; the document's example. -/
section
namespace Go.Proofs.YtihnjhigemhknaaGreatDoor
open Go.RowKit
set_option linter.unusedVariables false
set_option linter.unusedSimpArgs false
set_option maxRecDepth 100000

theorem says_same {zs : List Int} {D D' : PkgD} (h : Says zs D) (h' : Says zs D') : SameP D D' :=
  ⟨by rw [h'.name, h.name], by rw [h'.ver, h.ver], by rw [h'.needs, h.needs], by rw [h'.confs, h.confs], by rw [h'.files, h.files], by rw [h'.units, h.units]⟩
theorem fits_len {zs : List Int} (h : sumFits zs) : 4 ≤ zs.length := by
  have := congrArg List.length h
  rw [List.length_drop] at this
  have e : (le4 (crcI (zs.take (zs.length - 4)))).length = 4 := rfl
  omega
theorem read_any (v : Value) (zs : List Int) (w : World) (h : By w v zs) (hl : zs.length ≤ 1000000) (hm : Mx w) :
    Calls Tryz.prog 12 #[v] w fun e w' =>
      (¬ sumFits zs ∧ e = .returned (.tuple #[(.agg #[.string ⟨#[]⟩, .string ⟨#[]⟩, .slice none 0 0, .slice none 0 0, .slice none 0 0, .slice none 0 0]), .int .i64 5]) ∧ Below w.heap.size w w') ∨
      (sumFits zs ∧ ∃ D P, Says (zs.take (zs.length - 4)) D ∧ Fits D ∧ PkAt w' D P ∧ Below w.heap.size w w' ∧
      ((pkOk D = true ∧ packP D = zs.take (zs.length - 4) ∧ e = .returned (.tuple #[(.agg #[.string D.name, .string D.ver, .slice P.an D.needs.length P.cn, .slice P.ac D.confs.length P.cc, .slice P.af D.files.length P.cf, .slice P.au D.units.length P.cu]), .int .i64 0])) ∨
       (¬(pkOk D = true ∧ packP D = zs.take (zs.length - 4)) ∧ e = .returned (.tuple #[(.agg #[.string ⟨#[]⟩, .string ⟨#[]⟩, .slice none 0 0, .slice none 0 0, .slice none 0 0, .slice none 0 0]), .int .i64 4])))) := by
  by_cases hz : zs.length < 4
  · exact (read_short v zs w h hz).mono fun e w' ⟨h1, h2⟩ => .inl ⟨fun hf => absurd (fits_len hf) (by omega), h1, h2⟩
  · obtain ⟨g, o, c, rfl, _⟩ := h.cells (by omega)
    have hm4 : zs.length = (zs.length - 4) + 4 := by omega
    by_cases hs : le4 (crcI (zs.take (zs.length - 4))) = zs.drop (zs.length - 4)
    · have hfit : ∀ D, Says (zs.take (zs.length - 4)) D → Fits D := fun D hD => says_fits hD (by rw [List.length_take]; omega)
      by_cases hex : ∃ D, Says (zs.take (zs.length - 4)) D ∧ pkOk D = true
      · obtain ⟨D0, hD0, hk0⟩ := hex
        exact (read_right g o c zs w h (zs.length - 4) hm4 hs (by omega) hm hfit (fun D hD => by rw [pkOk_same (says_same hD0 hD)]; exact hk0)).mono fun e w' ⟨D, P, a, b, c', d⟩ => .inr ⟨hs, D, P, a, hfit D a, b, c', d⟩
      · exact (read_wrong g o c zs w h (zs.length - 4) hm4 hs (by omega) hm hfit (fun D hD => by
          cases hq : pkOk D with
          | false => rfl
          | true => exact absurd ⟨D, hD, hq⟩ hex)).mono fun e w' ⟨D, P, a, b, c', d⟩ => .inr ⟨hs, D, P, a, hfit D a, b, c', d⟩
    · exact (read_sum g o c zs w h (zs.length - 4) hm4 hs).mono fun e w' ⟨h1, h2⟩ => .inl ⟨hs, h1, h2⟩
theorem fits_small {D : PkgD} (h : SmallD D) : (packP D).length ≤ 100000 := by
  have a := flat_le packN 1000 D.needs (fun n hn => by have := h.need n hn; unfold packN; rw [List.length_append, List.length_append, sizedL_length, sizedL_length, sb_length, sb_length]; show _ + (4 + _) ≤ _; omega)
  have b := flat_le textL 1000 D.confs (fun n hn => by have := h.conf n hn; rw [textL_len]; omega)
  have c := flat_le packF 1000 D.files (fun n hn => by have := h.file n hn; unfold packF; rw [List.length_append, List.length_append, sizedL_length, sizedL_length, sb_length]; show _ + (4 + _) ≤ _; omega)
  have d := flat_le textL 1000 D.units (fun n hn => by have := h.unit n hn; rw [textL_len]; omega)
  have h1 := h.needs
  have h2 := h.confs
  have h3 := h.files
  have h4 := h.units
  have h5 := h.name
  have h6 := h.ver
  unfold packP
  rw [List.length_append, List.length_append, List.length_append, List.length_append, List.length_append, textL_len, textL_len, sizedL_length, sizedL_length, sizedL_length, sizedL_length]
  omega
/-- What was written is read as it. -/
theorem read_own (D : PkgD) (hs : SmallD D) (hk : pkOk D = true) (v : Value) (w : World) (h : By w v (writeP D)) (hm : Mx w) :
    Calls Tryz.prog 12 #[v] w fun e w' => ∃ D' P', SameP D D' ∧ Fits D' ∧ PkAt w' D' P' ∧ Below w.heap.size w w' ∧ e = .returned (.tuple #[(.agg #[.string D'.name, .string D'.ver, .slice P'.an D'.needs.length P'.cn, .slice P'.ac D'.confs.length P'.cc, .slice P'.af D'.files.length P'.cf, .slice P'.au D'.units.length P'.cu]), .int .i64 0]) := by
  have hlen := fits_small hs
  have hl : (writeP D).length = (packP D).length + 4 := by unfold writeP; rw [List.length_append]; rfl
  have ht : (writeP D).take ((writeP D).length - 4) = packP D := by rw [hl, Nat.add_sub_cancel]; unfold writeP; rw [List.take_left' rfl]
  have hf : sumFits (writeP D) := fits_own (packP D)
  refine (read_any v (writeP D) w h (by omega) hm).mono fun e w' hd => ?_
  rw [ht] at hd
  obtain ⟨h1, h2, h3, h4⟩ := small_flat hs
  rcases hd with ⟨hn, _⟩ | ⟨_, D', P', hD, hF, hP, hb, ha⟩
  · exact absurd hf hn
  · have hsame := says_pack D D' hD hs.fits (few_of hk).ways h1 h2 h3 h4
    rcases ha with ⟨_, _, e1⟩ | ⟨hno, _⟩
    · exact ⟨D', P', hsame, hF, hP, hb, e1⟩
    · exact absurd ⟨(pkOk_same hsame).trans hk, packP_same hsame⟩ hno
/-- Such bytes are there in whatever world. -/
theorem by_lit (w : World) (C : Array Value) (T : TypeId) (mk : Nat × Nat) (zs : List Int) (hC : C.toList = bs zs) (hz : Byts zs) (hl : zs.length ≤ 1000) : By (w.alloc (.cells C T mk)) (.slice (some ⟨w.heap.size, 0, none⟩) zs.length zs.length) zs := by
  refine ⟨.inr ⟨_, _, rfl, fun j u hj => ?_, bs_one _⟩, hz, _, zs.length, rfl, Nat.le_refl _, by unfold maxLen; omega⟩
  have hb : (w.alloc (.cells C T mk)).heap[w.heap.size]? = some (.cells C T mk) := by
    show (w.heap.push _)[w.heap.size]? = _
    simp
  rw [Addr.add_mid, Nat.zero_add, cell_of_block hb, ← hj, ← hC]
  simp
theorem by_lit_at (w : World) (C : Array Value) (T : TypeId) (mk : Nat × Nat) (zs : List Int) (g : Nat) (hg : g = w.heap.size) (hC : C.toList = bs zs) (hz : Byts zs) (hl : zs.length ≤ 1000) : By (w.alloc (.cells C T mk)) (.slice (some ⟨g, 0, none⟩) zs.length zs.length) zs := by
  subst hg
  exact by_lit w C T mk zs hC hz hl
theorem conv_constA (W : World) (C : Array Value) (n c : Nat) : Sem.run Tryz.prog (convert 34 34 (.slice (some ⟨W.heap.size, 0, none⟩) n c)) (W.alloc (.cells C 5)) = .ok (.slice (some ⟨W.heap.size, 0, none⟩) n c) (W.alloc (.cells C 5 (C.size, C.size + 1))) := Lib.run_convert_bytes_const W 34 5 C n c Tryz.underlying34 Tryz.underlying5
theorem conv_const_at (W : World) (C : Array Value) (n c g : Nat) (hg : g = W.heap.size) : Sem.run Tryz.prog (convert 34 34 (.slice (some ⟨g, 0, none⟩) n c)) (W.alloc (.cells C 5)) = .ok (.slice (some ⟨g, 0, none⟩) n c) (W.alloc (.cells C 5 (C.size, C.size + 1))) := by
  subst hg
  exact conv_constA W C n c
/-- The example: a package of one file. -/
def exD (H : Nat) : PkgD := ⟨⟨#[97]⟩, ⟨#[49]⟩, [], [], [⟨⟨#[47, 102]⟩, false, some ⟨H, 0, none⟩, 1, [120]⟩], []⟩
def exP (H : Nat) : PkL := ⟨none, 0, none, 0, some ⟨H, 0, none⟩, 1, none, 0⟩
theorem ex_ok (H : Nat) : pkOk (exD H) = true := by kernel_rfl
theorem ex_small (H : Nat) : SmallD (exD H) :=
  ⟨(by show ByteArray.size ⟨#[97]⟩ ≤ 60; decide), (by show ByteArray.size ⟨#[49]⟩ ≤ 60; decide), (by show 0 ≤ 20; decide), (fun n hn => by cases hn), (by show 0 ≤ 20; decide), (fun n hn => by cases hn), (by show 1 ≤ 20; decide), (fun f hf => by
    obtain rfl : f = _ := List.mem_singleton.1 hf
    exact ⟨(by show ByteArray.size ⟨#[47, 102]⟩ ≤ 60; decide), (by show 1 ≤ 600; decide)⟩), (by show 0 ≤ 20; decide), (fun n hn => by cases hn)⟩
theorem ex_len (H : Nat) : (writeP (exD H)).length = 45 := by
  unfold writeP
  rw [List.length_append]
  have : (packP (exD H)).length = 41 := by kernel_rfl
  rw [this]
  rfl
/-- The package of nothing. -/
def noD : PkgD := ⟨⟨#[]⟩, ⟨#[]⟩, [], [], [], []⟩
def noP : PkL := ⟨none, 0, none, 0, none, 0, none, 0⟩
theorem no_at (w : World) : PkAt w noD noP := ⟨fun i hi => absurd hi (Nat.not_lt_zero _), fun i hi => absurd hi (Nat.not_lt_zero _), fun i hi => absurd hi (Nat.not_lt_zero _), fun i hi => absurd hi (Nat.not_lt_zero _), fun f hf => (by cases hf), Nat.le_refl _⟩
theorem no_fits : Fits noD := ⟨by decide, by decide, by decide, fun n hn => (by cases hn), by decide, fun n hn => (by cases hn), by decide, fun n hn => (by cases hn), by decide, fun n hn => (by cases hn)⟩
theorem no_ok : pkOk noD = false := by kernel_rfl
theorem four_no : ¬ sumFits [102, 111, 117, 114] := by
  unfold sumFits
  decide +kernel
end Go.Proofs.YtihnjhigemhknaaGreatDoor
end

/- The document's example of package arc. -/
section
namespace Go.Proofs.YtihnjhigemhknaaGreatDoor
open Go.RowKit
set_option linter.unusedVariables false
set_option linter.unusedSimpArgs false
set_option maxRecDepth 100000

theorem ex_at {w0 w : World} (HO : Own w0 w [rowPk (w0.heap.size + 1 + 1) (exD w0.heap.size) (exP (w0.heap.size + 1)), box3 51 (w0.heap.size + 1) (.string ⟨#[47, 102]⟩) (.bool false) (.slice (some ⟨w0.heap.size, 0, none⟩) 1 1)]) (hB : By w (.slice (some ⟨w0.heap.size, 0, none⟩) 1 1) [120]) : PkAt w (exD w0.heap.size) (exP (w0.heap.size + 1)) := by
  refine ⟨fun i hi => absurd hi (Nat.not_lt_zero _), fun i hi => absurd hi (Nat.not_lt_zero _), fun i hi => ?_, fun i hi => absurd hi (Nat.not_lt_zero _), fun f hf => ?_, Nat.le_refl _⟩
  · obtain rfl : i = 0 := by
      have : i < 1 := hi
      omega
    exact ⟨_, _, rfl, Own.range (h := HO.tail) 0 3⟩
  · obtain rfl : f = _ := List.mem_singleton.1 hf
    exact hB
theorem ex_file {H : Nat} {D' : PkgD} (h : SameP (exD H) D') : ∃ f, D'.files = [f] ∧ f.data = [120] := by
  obtain ⟨hl, hk⟩ := trip_at h.files
  have h1 : D'.files.length = 1 := hl
  match hD : D'.files, h1 with
  | [f], _ =>
    refine ⟨f, rfl, ?_⟩
    have := (hk 0 (by show 0 < 1; decide) (by omega)).2.2
    simp only [hD] at this
    exact this
set_option maxHeartbeats 16000000 in
theorem aalive_any (w : World) (hm : Mx w) : Calls Tryz.prog 6 #[] w fun e w' => e = .returned (.bool true) ∧ Below w.heap.size w w' := by
  have hcs := conv_constA
  have hB1 := by_lit w #[.int .u8 120] 5 (1, 2) [120] rfl (by unfold Byts; decide) (by decide)
  have s1 : w.heap.size + 1 = (w.alloc (.cells #[.int .u8 120] 5 (1, 2))).heap.size := by simp
  have hO1 := (((Own.start w).alloc (.cells #[.int .u8 120] 5 (1, 2))).made_at 51 3 #[.string ⟨#[47, 102]⟩, .bool false, .slice (some ⟨w.heap.size, 0, none⟩) 1 1] 1 (w.heap.size + 1) s1 rfl (by unfold maxLen; decide))
  have s2 : w.heap.size + 1 + 1 = ((w.alloc (.cells #[.int .u8 120] 5 (1, 2))).alloc (.cells #[.string ⟨#[47, 102]⟩, .bool false, .slice (some ⟨w.heap.size, 0, none⟩) 1 1] 51)).heap.size := by simp
  have HO := Lib.hid (show Own w _ [rowPk (w.heap.size + 1 + 1) (exD w.heap.size) (exP (w.heap.size + 1)), box3 51 (w.heap.size + 1) (.string ⟨#[47, 102]⟩) (.bool false) (.slice (some ⟨w.heap.size, 0, none⟩) 1 1)] from
    hO1.made_at 26 6 #[.string ⟨#[97]⟩, .string ⟨#[49]⟩, .slice none 0 0, .slice none 0 0, .slice (some ⟨w.heap.size + 1, 0, none⟩) 1 1, .slice none 0 0] 1 (w.heap.size + 1 + 1) s2 rfl (by unfold maxLen; decide))
  clear s1 s2 hO1
  have HB := Lib.hid (show By ((((w.alloc (.cells #[.int .u8 120] 5 (1, 2))).alloc (.cells #[.string ⟨#[47, 102]⟩, .bool false, .slice (some ⟨w.heap.size, 0, none⟩) 1 1] 51))).alloc (.cells #[.string ⟨#[97]⟩, .string ⟨#[49]⟩, .slice none 0 0, .slice none 0 0, .slice (some ⟨w.heap.size + 1, 0, none⟩) 1 1, .slice none 0 0] 26)) (.slice (some ⟨w.heap.size, 0, none⟩) 1 1) [120] from
    (hB1.later ((Below.refl _ _).alloc (Nat.le_refl _) _)).later ((Below.refl _ _).alloc (Nat.le_refl _) _))
  have Hm := Lib.hid hm
  clear hB1 hm
  go_enter Tryz.func6, Tryz.ntmps6
  go_wp2_with fail
  have hw : Calls Tryz.prog 9 #[.agg #[.string ⟨#[97]⟩, .string ⟨#[49]⟩, .slice none 0 0, .slice none 0 0, .slice (some ⟨w.heap.size + 1, 0, none⟩) 1 1, .slice none 0 0]] _ _ := write_yes (exD w.heap.size) (exP (w.heap.size + 1)) _ (ex_at HO.out HB.out) (ex_small _).fits (Hm.out.later HO.out.below) (ex_ok _)
  refine hw.mono ?_
  rintro e w2 ⟨v2, rfl, hO2⟩
  obtain ⟨a2, c2, rfl, hc2, hc2m⟩ := Own.sized (h := hO2)
  have hbt : Byts (writeP (exD w.heap.size)) := (packP_byts _ (ex_small _).fits (few_of (ex_ok _)) (fun f hf => by
    obtain rfl : f = _ := List.mem_singleton.1 hf
    show Byts [120]
    unfold Byts
    decide)).append (le4_byts _ (crcI_le _).1 (crcI_le _).2)
  have hB2 := hO2.by hbt
  have HRd := Lib.hid (read_own (exD w.heap.size) (ex_small _) (ex_ok _) _ w2 hB2 (Hm.out.later (HO.out.join hO2).below))
  have HX2 := Lib.hid (HO.out.join hO2)
  have HL2 := Lib.hid (HB.out.later hO2.below)
  rw [ex_len] at HRd
  rw [ex_len]
  clear hw hO2 hbt hB2 hc2 HO
  go_wp2_with fail
  refine HRd.out.mono ?_
  rintro e w3 ⟨⟨nm, vr, ns, cs, fs, us⟩, P', hS, hF, hP, hb3, rfl⟩
  obtain ⟨f, hf, hfd⟩ := ex_file hS
  obtain rfl : nm = ⟨#[97]⟩ := hS.name
  obtain rfl : vr = ⟨#[49]⟩ := hS.ver
  obtain rfl : ns = [] := hS.needs
  obtain rfl : cs = [] := hS.confs
  obtain rfl : us = [] := hS.units
  obtain rfl : fs = [f] := hf
  have hsm : pkOk _ = true := (pkOk_same hS).trans (ex_ok _)
  obtain ⟨pa, fc, fa, fcp, fd⟩ := f
  obtain rfl : fd = [120] := hfd
  obtain ⟨an, cn, ac, cc, af, cf, au, cu⟩ := P'
  obtain ⟨g, o, hg, hr⟩ := hP.files 0 (by show 0 < 1; decide)
  obtain rfl : af = some ⟨g, o, none⟩ := hg
  have hD3 := hP.data _ (List.mem_singleton.2 rfl)
  have HP3 := Lib.hid hP
  have HF3 := Lib.hid hF
  have Hok := Lib.hid hsm
  have q2 : w3.cell? ⟨g, o + 2, none⟩ = some (.slice fa 1 fcp) := by
    have := hr 2 _ rfl
    simpa using this
  have HQ := Lib.hid (show w3.cell? ⟨g, o + 2, none⟩ = some (.slice fa 1 fcp) from q2)
  have HD3 := Lib.hid (show By w3 (.slice fa 1 fcp) [120] from hD3)
  dsimp only [List.length_nil, List.length_cons, Nat.zero_add] at *
  have HX3 := Lib.hid (HX2.out.later hb3)
  have HL3 := Lib.hid (HL2.out.later hb3)
  have s4 : w3.heap.size + 1 = (w3.alloc (.cells #[.string ⟨#[97]⟩, .string ⟨#[49]⟩, .slice an 0 cn, .slice ac 0 cc, .slice (some ⟨g, o, none⟩) 1 cf, .slice au 0 cu] 26)).heap.size := by simp
  have HX4 := Lib.hid ((HX3.out.box6 (.string ⟨#[97]⟩) (.string ⟨#[49]⟩) (.slice an 0 cn) (.slice ac 0 cc) (.slice (some ⟨g, o, none⟩) 1 cf) (.slice au 0 cu) 26).alloc (.cells #[.int .u8 102, .int .u8 111, .int .u8 117, .int .u8 114] 5 (4, 5)))
  have hc4 := conv_const_at (w3.alloc (.cells #[.string ⟨#[97]⟩, .string ⟨#[49]⟩, .slice an 0 cn, .slice ac 0 cc, .slice (some ⟨g, o, none⟩) 1 cf, .slice au 0 cu] 26)) #[.int .u8 102, .int .u8 111, .int .u8 117, .int .u8 114] 4 4 (w3.heap.size + 1) s4
  have HB4 := Lib.hid (by_lit_at (w3.alloc (.cells #[.string ⟨#[97]⟩, .string ⟨#[49]⟩, .slice an 0 cn, .slice ac 0 cc, .slice (some ⟨g, o, none⟩) 1 cf, .slice au 0 cu] 26)) #[.int .u8 102, .int .u8 111, .int .u8 117, .int .u8 114] 5 (4, 5) [102, 111, 117, 114] (w3.heap.size + 1) s4 rfl (by unfold Byts; decide) (by decide))
  clear hS hsm hr hP hF hb3 q2 hD3 HRd HX2 s4 hcs
  go_wp2_with fail
  refine (read_any _ _ _ HB4.out (by decide) (Hm.out.later HX4.out.below)).mono ?_
  rintro e w5 (⟨_, rfl, hb5⟩ | ⟨hf4, _⟩)
  case inr => exact absurd hf4 four_no
  have B4 : Below w3.heap.size w3 ((w3.alloc (.cells #[.string ⟨#[97]⟩, .string ⟨#[49]⟩, .slice an 0 cn, .slice ac 0 cc, .slice (some ⟨g, o, none⟩) 1 cf, .slice au 0 cu] 26)).alloc (.cells #[.int .u8 102, .int .u8 111, .int .u8 117, .int .u8 114] 5 (4, 5))) := ((Below.refl _ _).alloc (Nat.le_refl _) _).alloc (by simp) _
  have B5 := Lib.hid (B4.trans (hb5.mono B4.size))
  clear B4
  have HX5 := Lib.hid ((HX4.out.later hb5).alloc (.cells #[.string ⟨#[]⟩, .string ⟨#[]⟩, .slice none 0 0, .slice none 0 0, .slice none 0 0, .slice none 0 0] 26))
  clear hb5 hc4 HB4
  go_wp2_with fail
  refine (read_short _ [] _ (By.nil _) (by decide)).mono ?_
  rintro e w6 ⟨rfl, hb6⟩
  have HX6 := Lib.hid (HX5.out.later hb6)
  have B5a := B5.out.alloc B5.out.size (.cells #[.string ⟨#[]⟩, .string ⟨#[]⟩, .slice none 0 0, .slice none 0 0, .slice none 0 0, .slice none 0 0] 26)
  have B6 := Lib.hid (B5a.trans (hb6.mono B5a.size))
  obtain ⟨⟨c0, c1, c2', c3, c4, c5⟩, _, _⟩ := p6_cells HX6.out (H := w3.heap.size) (a := .string ⟨#[97]⟩) (b := .string ⟨#[49]⟩) (c := .slice an 0 cn) (d := .slice ac 0 cc) (e := .slice (some ⟨g, o, none⟩) 1 cf) (f := .slice au 0 cu) (List.mem_cons_self ..)
  have pk := pk_cells HX6.out (g := w.heap.size + 1 + 1) (D := exD w.heap.size) (P := exP (w.heap.size + 1)) (by simp)
  have e0 : w6.cell? ⟨w.heap.size + 1 + 1, 0, none⟩ = some (.string ⟨#[97]⟩) := pk.1
  have e1 : w6.cell? ⟨w.heap.size + 1 + 1, 1, none⟩ = some (.string ⟨#[49]⟩) := pk.2.1
  have e2 : w6.cell? ⟨w.heap.size + 1 + 1, 2, none⟩ = some (.slice none 0 0) := pk.2.2.1
  have e3 : w6.cell? ⟨w.heap.size + 1 + 1, 3, none⟩ = some (.slice none 0 0) := pk.2.2.2.1
  have e4 : w6.cell? ⟨w.heap.size + 1 + 1, 4, none⟩ = some (.slice (some ⟨w.heap.size + 1, 0, none⟩) 1 1) := pk.2.2.2.2.1
  have e5 : w6.cell? ⟨w.heap.size + 1 + 1, 5, none⟩ = some (.slice none 0 0) := pk.2.2.2.2.2
  have q2 : w6.cell? ⟨g, o + 2, none⟩ = some (.slice fa 1 fcp) := (B6.out.cell (p := ⟨g, o + 2, none⟩) (World.block_lt_of_cell? _ _ HQ.out)).trans HQ.out
  have l1 := World.block_lt_of_cell? _ _ c0
  have l2 := World.block_lt_of_cell? _ _ e0
  have l3 := World.block_lt_of_cell? _ _ q2
  have hex6 := ex_at HX6.out.tail.tail (HL3.out.later B6.out)
  have hz6 : Below w6.heap.size w6 (w6.alloc (.cells #[.string ⟨#[]⟩, .string ⟨#[]⟩, .slice none 0 0, .slice none 0 0, .slice none 0 0, .slice none 0 0] 26)) := (Below.refl _ _).alloc (Nat.le_refl _) _
  have hcv := ((HD3.out.later B6.out).later hz6).toStr
  have HP7 := Lib.hid (hex6.later hz6)
  have HX7 := Lib.hid (HX6.out.later hz6)
  have h120 : strOfNums [120] = ⟨#[120]⟩ := rfl
  rw [h120] at hcv
  clear hb6 pk hex6 hz6 B5a HX5 HX4 HX3 B5 HX6 HP3 HF3 Hok h120 HB
  go_wp2_with fail
  have hw7 : Calls Tryz.prog 10 #[.agg #[.string ⟨#[97]⟩, .string ⟨#[49]⟩, .slice none 0 0, .slice none 0 0, .slice (some ⟨w.heap.size + 1, 0, none⟩) 1 1, .slice none 0 0]] _ _ := pkright_any (exD w.heap.size) (exP (w.heap.size + 1)) _ HP7.out (ex_small _).fits (Hm.out.later HX7.out.below)
  rw [ex_ok] at hw7
  refine hw7.mono ?_
  rintro e w8 ⟨rfl, hb8⟩
  have HX8 := Lib.hid (HX7.out.later hb8)
  clear hw7 hb8 c0 c1 c2' c3 c4 c5 e0 e1 e2 e3 e4 e5 q2 l1 l2 l3 hcv
  go_wp2_with fail
  have hw8 : Calls Tryz.prog 10 #[.agg #[.string ⟨#[]⟩, .string ⟨#[]⟩, .slice none 0 0, .slice none 0 0, .slice none 0 0, .slice none 0 0]] _ _ := pkright_any noD noP w8 (no_at _) no_fits (Hm.out.later HX8.out.below)
  rw [no_ok] at hw8
  refine hw8.mono ?_
  rintro e w9 ⟨rfl, hb9⟩
  have HX9 := Lib.hid (HX8.out.later hb9)
  go_wp2_with fail
  go_ret
  exact ⟨rfl, HX9.out.below⟩
end Go.Proofs.YtihnjhigemhknaaGreatDoor
end

/- What the document asks of a package's files, and what the program asks of them, is the same: plain data. -/
section
namespace Go.Proofs.YtihnjhigemhknaaGreatDoor
open Go.RowKit
set_option linter.unusedVariables false
set_option linter.unusedSimpArgs false
set_option maxRecDepth 100000

/-! ### Names between slashes, joined again -/
def joinS : List (List UInt8) → List UInt8
  | [] => []
  | [a] => a
  | a :: b :: r => a ++ 47 :: joinS (b :: r)
theorem joinS_cons (a : List UInt8) {r : List (List UInt8)} (h : r ≠ []) : joinS (a :: r) = a ++ 47 :: joinS r := by
  cases r with
  | nil => exact absurd rfl h
  | cons b r => rfl
theorem joinS_glue (p : List UInt8) {r : List (List UInt8)} (h : r ≠ []) : joinS (glue p r) = p ++ joinS r := by
  cases r with
  | nil => exact absurd rfl h
  | cons q r =>
    cases r with
    | nil => rfl
    | cons b r => show (p ++ q) ++ 47 :: joinS (b :: r) = p ++ (q ++ 47 :: joinS (b :: r)); rw [List.append_assoc]
theorem joinS_parts (l : List UInt8) : joinS (partsL l) = l := by
  induction l with
  | nil => rfl
  | cons c l ih =>
    unfold partsL
    split
    · rename_i h; subst h; rw [joinS_cons _ (partsL_ne l), ih]; rfl
    · rw [joinS_glue _ (partsL_ne l), ih]; rfl
theorem joinS_app (a b : List (List UInt8)) (ha : a ≠ []) (hb : b ≠ []) : joinS (a ++ b) = joinS a ++ 47 :: joinS b := by
  induction a with
  | nil => exact absurd rfl ha
  | cons x a ih =>
    cases a with
    | nil => show joinS (x :: b) = _; rw [joinS_cons _ hb]; rfl
    | cons y a =>
      have h1 := ih (by simp)
      show x ++ 47 :: joinS (y :: a ++ b) = (x ++ 47 :: joinS (y :: a)) ++ 47 :: joinS b
      rw [h1, List.append_assoc]; rfl
theorem parts_mid (a b : List UInt8) : partsL (a ++ 47 :: b) = partsL a ++ partsL b := by
  induction a with
  | nil => show partsL (47 :: b) = [[]] ++ partsL b; unfold partsL; rw [if_pos rfl]; cases b <;> rfl
  | cons c a ih =>
    show partsL (c :: (a ++ 47 :: b)) = partsL (c :: a) ++ partsL b
    by_cases hc : c = 47
    · subst hc
      rw [partsL, partsL, if_pos rfl, if_pos rfl, ih]; rfl
    · rw [partsL, partsL, if_neg hc, if_neg hc, ih]
      have hne := partsL_ne a
      generalize partsL a = r at *
      cases r with
      | nil => exact absurd rfl hne
      | cons q r => rfl
theorem names_tail {l : List UInt8} (h : namesL l ≠ []) : okP l = true ∧ ∃ t, l = 47 :: t ∧ namesL l = partsL t := by
  unfold namesL at h ⊢
  by_cases h1 : l = [47]
  · rw [if_pos h1] at h; exact absurd rfl h
  · rw [if_neg h1] at h ⊢
    by_cases h2 : okP l = true
    · rw [if_pos h2] at h ⊢
      refine ⟨h2, ?_⟩
      have h3 := h2
      unfold okP at h3
      rw [decide_eq_false h1] at h3
      simp only [Bool.false_or, Bool.and_eq_true, decide_eq_true_eq] at h3
      cases l with
      | nil => simp at h3
      | cons c l =>
        have hc : c = 47 := by have := h3.1.1.2; simpa using this
        subst hc
        exact ⟨l, rfl, rfl⟩
    · rw [if_neg h2] at h; exact absurd rfl h
theorem within_pre {l m : List UInt8} (hl : namesL l ≠ []) (hm : namesL m ≠ []) : withinL l m = decide ((m ++ [47]) <+: l) := by
  obtain ⟨ol, a, rfl, na⟩ := names_tail hl
  obtain ⟨om, b, rfl, nb⟩ := names_tail hm
  rw [Bool.eq_iff_iff, decide_eq_true_iff]
  unfold withinL sameL
  rw [ol, om, na, nb]
  simp only [Bool.and_eq_true, decide_eq_true_eq, true_and]
  constructor
  · rintro ⟨h1, h2⟩
    have e : partsL a = partsL b ++ (partsL a).drop (partsL b).length := by
      conv => lhs; rw [← List.take_append_drop (partsL b).length (partsL a)]
      rw [h2]
    have hr : (partsL a).drop (partsL b).length ≠ [] := by
      intro h
      have := congrArg List.length h
      rw [List.length_drop] at this
      simp at this
      omega
    have e2 := congrArg joinS e
    rw [joinS_parts, joinS_app _ _ (partsL_ne b) hr, joinS_parts] at e2
    generalize joinS ((partsL a).drop (partsL b).length) = t at e2
    subst e2
    exact ⟨t, by simp⟩
  · rintro ⟨t, ht⟩
    have e : a = b ++ 47 :: t := by simpa using ht.symm
    rw [e, parts_mid]
    have h0 : 0 < (partsL t).length := by
      have := partsL_ne t
      cases hq : partsL t with
      | nil => exact absurd hq this
      | cons x y => simp
    exact ⟨by rw [List.length_append]; omega, List.take_left' rfl⟩
def varS : List UInt8 := [118, 97, 114]
theorem kept_names : namesL keptS.data.toList = [varS] := by decide +kernel
theorem fileOk_ref (f : FileD) : fileOk f = (decide (namesL f.path.data.toList ≠ []) && !decide ((namesL f.path.data.toList).head? = some varS) && decide (f.data.length ≤ 512)) := by
  unfold fileOk
  generalize f.path.data.toList = l
  by_cases hl : namesL l = []
  · rw [hl]; rfl
  · have hk : namesL keptS.data.toList ≠ [] := by rw [kept_names]; simp
    rw [within_pre hl hk]
    obtain ⟨ol, a, rfl, na⟩ := names_tail hl
    have key : (decide ((47 :: a : List UInt8) = keptS.data.toList) || decide ((keptS.data.toList ++ [47]) <+: (47 :: a))) = decide ((namesL (47 :: a)).head? = some varS) := by
      rw [na, Bool.eq_iff_iff, Bool.or_eq_true, decide_eq_true_iff, decide_eq_true_iff, decide_eq_true_iff]
      have hkl : keptS.data.toList = 47 :: varS := rfl
      rw [hkl]
      constructor
      · rintro (h | ⟨t, ht⟩)
        · have e : a = varS := by simpa using h
          subst e
          decide +kernel
        · have e : a = varS ++ 47 :: t := by simpa using ht.symm
          rw [e, parts_mid]
          rfl
      · intro h
        cases hp : partsL a with
        | nil => exact absurd hp (partsL_ne a)
        | cons x r =>
          rw [hp] at h
          obtain rfl : x = varS := by simpa using h
          have e := congrArg joinS hp
          rw [joinS_parts] at e
          cases r with
          | nil => left; rw [e]; rfl
          | cons y r => right; exact ⟨joinS (y :: r), by rw [e]; rfl⟩
    rw [← key]
    generalize decide ((47 :: a : List UInt8) = keptS.data.toList) = p
    generalize decide ((keptS.data.toList ++ [47]) <+: (47 :: a)) = q
    generalize decide (f.data.length ≤ 512) = r
    generalize decide (namesL (47 :: a) ≠ []) = s
    cases p <;> cases q <;> cases r <;> cases s <;> rfl
/-! ### Texts in their order -/
theorem less_irrefl : ∀ a : List UInt8, Op.bytesLess a a = false
  | [] => rfl
  | x :: a => by
    have := less_irrefl a
    simp [Op.bytesLess, this]
theorem less_trans : ∀ (a b c : List UInt8), Op.bytesLess a b = true → Op.bytesLess b c = true → Op.bytesLess a c = true
  | _, _, [], _, h => by
    rename_i a b h1
    cases b <;> simp [Op.bytesLess] at h
  | [], _, z :: c, _, _ => by simp [Op.bytesLess]
  | x :: a, [], z :: c, h, _ => by simp [Op.bytesLess] at h
  | x :: a, y :: b, z :: c, h1, h2 => by
    have ih := less_trans a b c
    simp only [Op.bytesLess, Bool.or_eq_true, Bool.and_eq_true, decide_eq_true_eq, beq_iff_eq] at h1 h2 ⊢
    rcases h1 with h1 | ⟨rfl, h1⟩
    · rcases h2 with h2 | ⟨rfl, h2⟩
      · exact .inl (UInt8.lt_trans h1 h2)
      · exact .inl h1
    · rcases h2 with h2 | ⟨rfl, h2⟩
      · exact .inl h2
      · exact .inr ⟨rfl, ih h1 h2⟩
theorem less_total : ∀ (a b : List UInt8), Op.bytesLess a b = false → a ≠ b → Op.bytesLess b a = true
  | [], [], _, h => absurd rfl h
  | [], y :: b, h, _ => by simp [Op.bytesLess] at h
  | x :: a, [], _, _ => by simp [Op.bytesLess]
  | x :: a, y :: b, h, hne => by
    have ih := less_total a b
    simp only [Op.bytesLess, Bool.or_eq_false_iff, Bool.and_eq_false_iff, decide_eq_false_iff_not, beq_eq_false_iff_ne] at h
    simp only [Op.bytesLess, Bool.or_eq_true, Bool.and_eq_true, decide_eq_true_eq, beq_iff_eq]
    obtain ⟨h1, h2⟩ := h
    by_cases e : x = y
    · subst e
      rcases h2 with h2 | h2
      · exact absurd rfl h2
      · exact .inr ⟨rfl, ih h2 (fun e => hne (by rw [e]))⟩
    · left
      exact UInt8.lt_of_le_of_ne (UInt8.not_lt.1 h1) (fun e2 => e e2.symm)
theorem less_leS (f g : ByteArray) : (!leS f g) = Op.bytesLess g.toList f.toList := by
  unfold leS
  rw [Bool.eq_iff_iff]
  constructor
  · intro h
    simp only [Bool.not_eq_true', Bool.or_eq_false_iff, beq_eq_false_iff_ne] at h
    exact less_total _ _ h.1 h.2
  · intro h
    simp only [Bool.not_eq_true', Bool.or_eq_false_iff, beq_eq_false_iff_ne]
    refine ⟨?_, fun e => ?_⟩
    · rw [Bool.eq_false_iff]
      intro h2
      have := less_trans _ _ _ h h2
      rw [less_irrefl] at this
      cases this
    · rw [e, less_irrefl] at h; cases h
/-! ### One file behind another one, as the document asks -/
def slashS : ByteArray := ⟨#[47]⟩
def refPair (f x : FileD) : Bool := Op.bytesLess x.path.toList f.path.toList && !decide ((x.path.data.toList ++ [47]) <+: f.path.data.toList)
def refAt (fs : List FileD) (k : Nat) : Bool := match fs[k]? with
  | none => true
  | some f => fileOk f && (fs.take k).all fun x => refPair f x
theorem refAt_eq (fs : List FileD) (k : Nat) (h : k < fs.length) : refAt fs k = (fileOk fs[k] && (fs.take k).all fun x => refPair fs[k] x) := by
  unfold refAt; rw [List.getElem?_eq_getElem h]
theorem fileOk_names {f : FileD} (h : fileOk f = true) : namesL f.path.data.toList ≠ [] := by
  unfold fileOk at h
  simp only [Bool.and_eq_true, decide_eq_true_eq] at h
  exact h.1.1.1
theorem chain_less (fs : List FileD) (k : Nat) (h : ∀ i (hi : i < k) (h2 : i + 1 < fs.length), Op.bytesLess fs[i].path.toList fs[i + 1].path.toList = true) : ∀ j (hj : j < k) (hk : k < fs.length), Op.bytesLess fs[j].path.toList fs[k].path.toList = true := by
  induction k with
  | zero => intro j hj; omega
  | succ k ih =>
    intro j hj hk
    have h1 := h k (by omega) hk
    by_cases e : j = k
    · subst e; exact h1
    · exact less_trans _ _ _ (ih (fun i hi h2 => h i (by omega) h2) j (by omega) (by omega)) h1
theorem files_ref (fs : List FileD) : filesOk fs = (List.range fs.length).all (refAt fs) := by
  rw [Bool.eq_iff_iff]
  unfold filesOk
  rw [List.all_eq_true, List.all_eq_true]
  constructor
  · intro h k hk
    have hkl := List.mem_range.1 hk
    have hat : ∀ i (hi : i < fs.length), fileOk fs[i] = true ∧ lateBad fs i fs[i] = false ∧ ((fs.take i).any fun x => withinL fs[i].path.data.toList x.path.data.toList) = false := fun i hi => by
      have := h i (List.mem_range.2 hi)
      rw [fileAt_eq fs i hi] at this
      simp only [Bool.and_eq_true, Bool.not_eq_true'] at this
      exact ⟨this.1.1, this.1.2, this.2⟩
    rw [refAt_eq fs k hkl, (hat k hkl).1, Bool.true_and, List.all_eq_true]
    intro x hx
    obtain ⟨j, hj, rfl⟩ := List.getElem_of_mem hx
    rw [List.length_take] at hj
    rw [List.getElem_take]
    have hl := chain_less fs k (fun i hi h2 => by
      have h3 := (hat (i + 1) h2).2.1
      rw [lateBad_succ fs i _ (by omega)] at h3
      rw [← less_leS, h3]; rfl) j (by omega) hkl
    have hw := (hat k hkl).2.2
    rw [List.any_eq_false] at hw
    have hw2 := hw fs[j] (by rw [← List.getElem_take (j := k) (h := by rw [List.length_take]; omega)]; exact List.getElem_mem _)
    rw [within_pre (fileOk_names (hat k hkl).1) (fileOk_names (hat j (by omega)).1)] at hw2
    unfold refPair
    rw [hl, Bool.true_and, Bool.not_eq_true', Bool.eq_false_iff]
    exact hw2
  · intro h k hk
    have hkl := List.mem_range.1 hk
    have hat : ∀ i (hi : i < fs.length), fileOk fs[i] = true ∧ ∀ j (hj : j < i), refPair fs[i] (fs[j]'(by omega)) = true := fun i hi => by
      have := h i (List.mem_range.2 hi)
      rw [refAt_eq fs i hi] at this
      simp only [Bool.and_eq_true, List.all_eq_true] at this
      exact ⟨this.1, fun j hj => this.2 fs[j] (by rw [← List.getElem_take (j := i) (h := by rw [List.length_take]; omega)]; exact List.getElem_mem _)⟩
    rw [fileAt_eq fs k hkl, (hat k hkl).1, Bool.true_and, Bool.and_eq_true]
    constructor
    · cases k with
      | zero => rfl
      | succ j =>
        rw [lateBad_succ fs j _ (by omega), less_leS]
        have := (hat (j + 1) hkl).2 j (by omega)
        unfold refPair at this
        simp only [Bool.and_eq_true] at this
        exact this.1
    · rw [Bool.not_eq_true', List.any_eq_false]
      intro x hx
      obtain ⟨j, hj, rfl⟩ := List.getElem_of_mem hx
      rw [List.length_take] at hj
      rw [List.getElem_take, within_pre (fileOk_names (hat k hkl).1) (fileOk_names (hat j (by omega)).1)]
      have := (hat k hkl).2 j (by omega)
      unfold refPair at this
      simp only [Bool.and_eq_true, Bool.not_eq_true', decide_eq_false_iff_not] at this
      simpa using this.2
theorem filesOk_bad (fs : List FileD) (k : Nat) (h : k < fs.length) (hf : refAt fs k = false) : filesOk fs = false := by
  rw [files_ref]
  exact List.all_eq_false.2 ⟨k, List.mem_range.2 h, by rw [hf]; decide⟩
theorem refAt_late (fs : List FileD) (k j : Nat) (h : k < fs.length) (hj : j < k) (hf : refPair fs[k] (fs[j]'(by omega)) = false) : refAt fs k = false := by
  rw [refAt_eq fs k h]
  have : ((fs.take k).all fun x => refPair fs[k] x) = false := List.all_eq_false.2 ⟨fs[j]'(by omega), by rw [← List.getElem_take (j := k) (h := by rw [List.length_take]; omega)]; exact List.getElem_mem _, by rw [hf]; decide⟩
  rw [this, Bool.and_false]
theorem refAt_good (fs : List FileD) (k : Nat) (h : k < fs.length) (hf : fileOk fs[k] = true) (hp : ∀ j (hj : j < k), refPair fs[k] (fs[j]'(by omega)) = true) : refAt fs k = true := by
  rw [refAt_eq fs k h, hf, Bool.true_and, List.all_eq_true]
  intro x hx
  obtain ⟨j, hj, rfl⟩ := List.getElem_of_mem hx
  rw [List.length_take] at hj
  rw [List.getElem_take]
  exact hp j (by omega)
end Go.Proofs.YtihnjhigemhknaaGreatDoor
end

/- The document's example of package ver; its laws without the document's answer. -/
section
namespace Go.Proofs.YtihnjhigemhknaaGreatDoor
open Go.RowKit
set_option linter.unusedVariables false
set_option linter.unusedSimpArgs false
set_option maxRecDepth 100000

theorem vright_from {w0 : World} (hm : VMx w0) (s : ByteArray) (hs : s.size ≤ 1000000) (x : Bool) (hx : rightV s.data.toList = x) : ∀ w, Below w0.heap.size w0 w → Calls Tryz.prog 20 #[.string s] w fun e w' => e = .returned (.bool x) ∧ Below w0.heap.size w0 w' := fun w hb =>
  (vright_any s w hs (hm.later hb)).mono fun e w' ⟨h1, h2⟩ => ⟨by rw [h1, hx], hb.trans (h2.mono hb.size)⟩
end Go.Proofs.YtihnjhigemhknaaGreatDoor
end

/- VerOrders: its walk. -/
section
namespace Go.Proofs.YtihnjhigemhknaaGreatDoor
open Go.RowKit
set_option linter.unusedVariables false
set_option linter.unusedSimpArgs false
set_option maxRecDepth 100000

theorem eq_lists {a b : ByteArray} : (a.toList == b.toList) = decide (a.data.toList = b.data.toList) := by
  rw [Lib.toList_data, Lib.toList_data, Bool.eq_iff_iff]; simp
end Go.Proofs.YtihnjhigemhknaaGreatDoor
end

/- VerFits: its walk. -/
section
namespace Go.Proofs.YtihnjhigemhknaaGreatDoor
open Go.RowKit
set_option linter.unusedVariables false
set_option linter.unusedSimpArgs false
set_option maxRecDepth 100000

end Go.Proofs.YtihnjhigemhknaaGreatDoor
end

/- The document's own answer for versions: a number, the pieces. -/
section
namespace Go.Proofs.YtihnjhigemhknaaGreatDoor
open Go.RowKit
set_option linter.unusedVariables false
set_option linter.unusedSimpArgs false
set_option maxRecDepth 100000

def refN (l : List UInt8) : Int := if numL l then (valN l : Int) else -1
theorem refN_yes {l : List UInt8} (h : numL l = true) : refN l = valN l := by unfold refN; rw [if_pos h]
theorem refN_no {l : List UInt8} (h : numL l = false) : refN l = -1 := by unfold refN; rw [if_neg (by rw [h]; decide)]
theorem valN_snoc (l : List UInt8) (c : UInt8) : valN (l ++ [c]) = 10 * valN l + (c.toNat - 48) := by
  unfold valN; rw [List.foldl_append]; rfl
theorem fold_lt (l : List UInt8) (h : l.all digB = true) : ∀ acc, l.foldl (fun n (c : UInt8) => 10 * n + (c.toNat - 48)) acc < (acc + 1) * 10 ^ l.length := by
  induction l with
  | nil => intro acc; simp
  | cons c l ih =>
    intro acc
    simp only [List.all_cons, Bool.and_eq_true] at h
    have hc := of_decide_eq_true h.1
    have h1 := ih h.2 (10 * acc + (c.toNat - 48))
    rw [List.foldl_cons, List.length_cons, Nat.pow_succ]
    refine Nat.lt_of_lt_of_le h1 ?_
    rw [Nat.mul_comm (10 ^ l.length) 10, ← Nat.mul_assoc]
    exact Nat.mul_le_mul_right _ (by omega)
theorem valN_lt {l : List UInt8} (h : l.all digB = true) (hl : l.length ≤ 4) : valN l < 10000 := by
  have h1 := fold_lt l h 0
  have h2 : 10 ^ l.length ≤ 10 ^ 4 := Nat.pow_le_pow_right (by decide) hl
  unfold valN
  omega
theorem take_snocB (s : ByteArray) (k : Nat) (h : k < s.size) : s.data.toList.take (k + 1) = s.data.toList.take k ++ [s[k]] := by
  rw [List.take_succ_eq_append_getElem (by simpa using h)]; rfl
def NumRel (s : ByteArray) (n i : Value) : Prop := ∃ k : Nat, k ≤ s.size ∧ i = .int .i64 k ∧ n = .int .i64 (valN (s.data.toList.take k) : Int) ∧ (s.data.toList.take k).all digB = true
theorem num_front (s : ByteArray) : s.size < 1 ∧ numL s.data.toList = false ∨ 4 < s.size ∧ numL s.data.toList = false ∨ 1 ≤ s.size ∧ s.size ≤ 4 ∧ (1 < s.size ∧ ∃ h : 0 < s.size, s[0].toNat = 48 ∧ numL s.data.toList = false) ∨ 1 ≤ s.size ∧ s.size ≤ 4 ∧ numL s.data.toList = s.data.toList.all digB ∧ (s.size = 1 ∨ 1 < s.size ∧ ∃ h : 0 < s.size, s[0].toNat ≠ 48) := by
  have e := Lib.size_eq s
  have hh := vhead_at s
  by_cases h1 : s.size < 1
  · refine .inl ⟨h1, ?_⟩
    unfold numL; rw [decide_eq_false (by omega)]; rfl
  · by_cases h2 : 4 < s.size
    · refine .inr (.inl ⟨h2, ?_⟩)
      unfold numL; rw [decide_eq_false (by omega)]; rfl
    · by_cases h4 : s.size = 1
      · refine .inr (.inr (.inr ⟨by omega, by omega, ?_, .inl h4⟩))
        unfold numL
        rw [decide_eq_true ⟨by omega, by omega, by omega⟩, Bool.true_and]
      · have h0 : 0 < s.size := by omega
        have hz := hh h0
        by_cases h5 : s[0] = 48
        · refine .inr (.inr (.inl ⟨by omega, by omega, by omega, h0, by rw [h5]; rfl, ?_⟩))
          unfold numL
          rw [decide_eq_false fun k => k.2.2 ⟨by omega, by rw [hz, h5]⟩]; rfl
        · refine .inr (.inr (.inr ⟨by omega, by omega, ?_, .inr ⟨by omega, h0, fun k => h5 (UInt8.toNat_inj.1 k)⟩⟩))
          unfold numL
          rw [decide_eq_true ⟨by omega, by omega, fun k => h5 (Option.some.inj (hz.symm.trans k.2))⟩, Bool.true_and]
set_option maxHeartbeats 4000000 in
theorem refnum_any (s : ByteArray) (w : World) (hs : s.size ≤ maxLen) : Calls Tryz.prog 73 #[.string s] w fun e w' => e = .returned (.int .i64 (refN s.data.toList)) ∧ w = w' := by
  unfold maxLen at hs
  rcases num_front s with ⟨h1, h2⟩ | ⟨h1, h2⟩ | ⟨h1, h2, h3, h0, h4, h5⟩ | ⟨h1, h2, h3, h4⟩
  · rw [refN_no h2]
    go_enter Tryz.func73, Tryz.ntmps73
    go_wp2_with fail
    go_ret
    exact ⟨rfl, rfl⟩
  · rw [refN_no h2]
    go_enter Tryz.func73, Tryz.ntmps73
    go_wp2_with fail
    go_ret
    exact ⟨rfl, rfl⟩
  · rw [refN_no h5]
    have hx : ((s[0].toNat : Int) == 48) = true := beq_iff_eq.2 (by omega)
    clear h5 h4
    go_enter Tryz.func73, Tryz.ntmps73
    go_wp2_with fail
    go_ret
    exact ⟨rfl, rfl⟩
  · have Hst := Lib.hid (show NumRel s (.int .i64 0) (.int .i64 0) from ⟨0, Nat.zero_le _, rfl, rfl, rfl⟩)
    have H3 := Lib.hid h3
    have e := Lib.size_eq s
    have HE := Lib.hid e
    clear h3 e
    have hd : decide (4 < (s.size : Int)) = false := decide_eq_false (by omega)
    rcases h4 with h4 | ⟨h4, h0, h5⟩
    · go_enter Tryz.func73, Tryz.ntmps73
      go_wp2_with fail
      go_loop [3, 4] (fun n i => NumRel s n i) (fun _ i => s.size - (intOf i).toNat)
      case atStart => exact Hst.out
      case round =>
        obtain ⟨k, hk, rfl, rfl, hall⟩ := hrel
        clear Hst
        by_cases hlt : k < s.size
        · have hv := valN_lt hall (by rw [List.length_take]; omega)
          have HS := Lib.hid (take_snocB s k hlt)
          have HA := Lib.hid hall
          by_cases hg : digB s[k] = true
          · have h6 : (48 : Int) ≤ s[k].toNat ∧ (s[k].toNat : Int) ≤ 57 := by have := of_decide_eq_true hg; omega
            obtain ⟨h6, h7⟩ := h6
            have HX := Lib.hid (show ∀ n i, n = .int .i64 ((10 * valN (s.data.toList.take k) + (s[k].toNat - 48) : Nat) : Int) → i = .int .i64 ((k + 1 : Nat) : Int) → NumRel s n i from fun n i hn hi => ⟨k + 1, hlt, hi, by rw [hn, HS.out, valN_snoc], by rw [HS.out, List.all_append, HA.out, List.all_cons, hg]; rfl⟩)
            clear hg hall HS HA
            generalize valN (s.data.toList.take k) = n at *
            go_wp2_with fail
            go_round
            case rel => exact HX.out _ _ (by go_num) (by go_num)
            case measure => simp [intOf]; omega
          · have hg : digB s[k] = false := by simpa using hg
            have HN := Lib.hid (refN_no (by rw [H3.out]; exact bytes_no digB s k hlt hg))
            have h6 : (s[k].toNat : Int) < 48 ∨ (57 : Int) < s[k].toNat := by
              have := of_decide_eq_false hg; omega
            clear hg hall HS HA
            generalize valN (s.data.toList.take k) = n at *
            rcases h6 with h6 | h6
            · go_wp2_with fail
              go_ret
              exact ⟨by rw [HN.out]; rfl, rfl⟩
            · have h7 : ¬ (s[k].toNat : Int) < 48 := by omega
              go_wp2_with fail
              go_ret
              exact ⟨by rw [HN.out]; rfl, rfl⟩
        · have HT := Lib.hid (show s.data.toList.take k = s.data.toList from List.take_of_length_le (by rw [← HE.out]; omega))
          have HR := Lib.hid (show refN s.data.toList = valN s.data.toList from refN_yes (by rw [H3.out, ← HT.out]; exact hall))
          rw [HT.out]
          clear hall
          generalize valN s.data.toList = n at *
          go_wp2_with fail
          go_ret
          exact ⟨by rw [HR.out]; rfl, rfl⟩
    · have hx : ((s[0].toNat : Int) == 48) = false := beq_eq_false_iff_ne.2 (by omega)
      clear h5
      go_enter Tryz.func73, Tryz.ntmps73
      go_wp2_with fail
      clear hx
      go_loop [3, 4] (fun n i => NumRel s n i) (fun _ i => s.size - (intOf i).toNat)
      case atStart => exact Hst.out
      case round =>
        obtain ⟨k, hk, rfl, rfl, hall⟩ := hrel
        clear Hst
        by_cases hlt : k < s.size
        · have hv := valN_lt hall (by rw [List.length_take]; omega)
          have HS := Lib.hid (take_snocB s k hlt)
          have HA := Lib.hid hall
          by_cases hg : digB s[k] = true
          · have h6 : (48 : Int) ≤ s[k].toNat ∧ (s[k].toNat : Int) ≤ 57 := by have := of_decide_eq_true hg; omega
            obtain ⟨h6, h7⟩ := h6
            have HX := Lib.hid (show ∀ n i, n = .int .i64 ((10 * valN (s.data.toList.take k) + (s[k].toNat - 48) : Nat) : Int) → i = .int .i64 ((k + 1 : Nat) : Int) → NumRel s n i from fun n i hn hi => ⟨k + 1, hlt, hi, by rw [hn, HS.out, valN_snoc], by rw [HS.out, List.all_append, HA.out, List.all_cons, hg]; rfl⟩)
            clear hg hall HS HA
            generalize valN (s.data.toList.take k) = n at *
            go_wp2_with fail
            go_round
            case rel => exact HX.out _ _ (by go_num) (by go_num)
            case measure => simp [intOf]; omega
          · have hg : digB s[k] = false := by simpa using hg
            have HN := Lib.hid (refN_no (by rw [H3.out]; exact bytes_no digB s k hlt hg))
            have h6 : (s[k].toNat : Int) < 48 ∨ (57 : Int) < s[k].toNat := by
              have := of_decide_eq_false hg; omega
            clear hg hall HS HA
            generalize valN (s.data.toList.take k) = n at *
            rcases h6 with h6 | h6
            · go_wp2_with fail
              go_ret
              exact ⟨by rw [HN.out]; rfl, rfl⟩
            · have h7 : ¬ (s[k].toNat : Int) < 48 := by omega
              go_wp2_with fail
              go_ret
              exact ⟨by rw [HN.out]; rfl, rfl⟩
        · have HT := Lib.hid (show s.data.toList.take k = s.data.toList from List.take_of_length_le (by rw [← HE.out]; omega))
          have HR := Lib.hid (show refN s.data.toList = valN s.data.toList from refN_yes (by rw [H3.out, ← HT.out]; exact hall))
          rw [HT.out]
          clear hall
          generalize valN s.data.toList = n at *
          go_wp2_with fail
          go_ret
          exact ⟨by rw [HR.out]; rfl, rfl⟩
end Go.Proofs.YtihnjhigemhknaaGreatDoor
end

/- The document's own answer for versions: Parse. -/
section
namespace Go.Proofs.YtihnjhigemhknaaGreatDoor
open Go.RowKit
set_option linter.unusedVariables false
set_option linter.unusedSimpArgs false
set_option maxRecDepth 100000

/-- How far the pieces have been cut: 'done' are those so far; a piece runs from 'f' to k. -/
def VCut (d : UInt8) (l : List UInt8) (done : List (List UInt8)) (f k : Nat) : Prop :=
  (f ≤ k ∧ k ≤ l.length ∧ bits d l = done ++ glue ((l.drop f).take (k - f)) (bits d (l.drop k))) ∨ (k = l.length + 1 ∧ bits d l = done)
theorem VCut.start (d : UInt8) (l : List UInt8) : VCut d l [] 0 0 := by
  refine .inl ⟨by omega, by omega, ?_⟩
  rw [Nat.sub_self, List.take_zero, glue_nil (bits_ne d _)]; rfl
theorem VCut.mark {d : UInt8} {l : List UInt8} {done : List (List UInt8)} {f k : Nat} (h : VCut d l done f k) (hk : k < l.length) (hs : l[k] = d) : VCut d l (done ++ [(l.drop f).take (k - f)]) (k + 1) (k + 1) := by
  rcases h with ⟨h2, h3, h4⟩ | ⟨h1, _⟩
  · refine .inl ⟨by omega, hk, ?_⟩
    rw [h4, Nat.sub_self, List.take_zero, glue_nil (bits_ne d _), List.drop_eq_getElem_cons hk, hs, bits_cons, if_pos rfl]
    simp [glue]
  · omega
theorem VCut.on {d : UInt8} {l : List UInt8} {done : List (List UInt8)} {f k : Nat} (h : VCut d l done f k) (hk : k < l.length) (hs : l[k] ≠ d) : VCut d l done f (k + 1) := by
  rcases h with ⟨h2, h3, h4⟩ | ⟨h1, _⟩
  · refine .inl ⟨by omega, hk, ?_⟩
    have e : (l.drop f).take (k + 1 - f) = (l.drop f).take (k - f) ++ [l[k]] := by
      rw [show k + 1 - f = (k - f) + 1 by omega, List.take_succ_eq_append_getElem (by rw [List.length_drop]; omega), List.getElem_drop]
      congr 2; congr 1; omega
    rw [h4, e, List.drop_eq_getElem_cons hk, bits_cons, if_neg hs, glue_glue]
  · omega
theorem VCut.stop {d : UInt8} {l : List UInt8} {done : List (List UInt8)} {f k : Nat} (h : VCut d l done f k) (hk : k = l.length) : VCut d l (done ++ [(l.drop f).take (k - f)]) (k + 1) (k + 1) := by
  rcases h with ⟨h2, h3, h4⟩ | ⟨h1, _⟩
  · refine .inr ⟨by omega, ?_⟩
    rw [h4, hk, List.drop_length]
    simp [glue, bits]
  · omega
theorem VCut.piece {d : UInt8} {l : List UInt8} {done : List (List UInt8)} {f k : Nat} (h : VCut d l (done ++ [(l.drop f).take (k - f)]) (k + 1) (k + 1)) : (l.drop f).take (k - f) ∈ bits d l := by
  rcases h with ⟨_, _, h4⟩ | ⟨_, h4⟩
  · rw [h4]; simp
  · rw [h4]; simp
theorem VCut.few {d : UInt8} {l : List UInt8} {done : List (List UInt8)} {f k : Nat} (h : VCut d l done f k) (m : Nat) (hl : l.length ≤ m) : done.length ≤ m + 1 := by
  have h0 := (bits_length d l).2
  rcases h with ⟨_, _, h4⟩ | ⟨_, h4⟩
  · rw [h4, List.length_append] at h0; omega
  · rw [h4] at h0; omega
theorem VCut.ended {d : UInt8} {l : List UInt8} {done : List (List UInt8)} {f k : Nat} (h : VCut d l done f k) (hk : ¬ k ≤ l.length) : bits d l = done := by
  rcases h with ⟨_, h3, _⟩ | ⟨_, h4⟩
  · exact absurd h3 hk
  · exact h4
/-- Where the first mark stands. -/
theorem index_first {d : UInt8} : ∀ {l : List UInt8} {k : Nat} (hk : k < l.length), d ∉ l.take k → l[k] = d → Lib.index l [d] = k
  | [], k, hk, _, _ => absurd hk (by simp)
  | c :: l, 0, hk, _, hs => by rw [index_cons, if_pos (show c = d from hs)]; rfl
  | c :: l, k + 1, hk, hn, hs => by
    rw [List.take_succ_cons, List.mem_cons, not_or] at hn
    have h1 := index_first (l := l) (k := k) (by simpa using hk) hn.2 hs
    rw [index_cons, if_neg (Ne.symm hn.1), h1, if_neg (by omega)]; rfl
theorem cut_first {l : List UInt8} {k : Nat} (hk : k < l.length) (hn : (45 : UInt8) ∉ l.take k) (hs : l[k] = 45) : dashL l = true ∧ frontL l = l.take k ∧ restL l = l.drop (k + 1) := by
  have h := index_first hk hn hs
  unfold dashL frontL restL Lib.cut
  rw [h, if_pos (by omega)]
  exact ⟨rfl, rfl, rfl⟩
theorem cut_none {l : List UInt8} (hn : (45 : UInt8) ∉ l) : dashL l = false ∧ frontL l = l := by
  have h := (index_no 45 l).2 hn
  unfold dashL frontL Lib.cut
  rw [h, if_neg (by omega)]
  exact ⟨rfl, rfl⟩
theorem not_mem_succ {d : UInt8} {s : ByteArray} {k : Nat} (hk : k < s.size) (hn : d ∉ s.data.toList.take k) (h : s[k] ≠ d) : d ∉ s.data.toList.take (k + 1) := by
  rw [take_snocB s k hk, List.mem_append, List.mem_singleton, not_or]
  exact ⟨hn, Ne.symm h⟩
/-- What is known of the revision behind the first loop. -/
def RevOk (l : List UInt8) (r : Int) : Prop := dashL l = true ∧ numL (restL l) = true ∧ valN (restL l) ≠ 0 ∧ r = (valN (restL l) : Int) ∨ dashL l = false ∧ r = 0
def DashRel (s : ByteArray) (x r i : Value) : Prop :=
  (∃ k : Nat, k ≤ s.size ∧ x = .string s ∧ r = .int .i64 0 ∧ i = .int .i64 k ∧ (45 : UInt8) ∉ s.data.toList.take k) ∨
  (∃ rv : Int, x = .string (toB (frontL s.data.toList)) ∧ r = .int .i64 rv ∧ i = .int .i64 (((frontL s.data.toList).length + 1 : Nat) : Int) ∧ RevOk s.data.toList rv)
theorem DashRel.ways {s : ByteArray} {x r i : Value} (h : DashRel s x r i) : (∃ (k : Nat) (hk : k < s.size), x = .string s ∧ r = .int .i64 0 ∧ i = .int .i64 k ∧ (45 : UInt8) ∉ s.data.toList.take k) ∨ ∃ (k : Nat) (rv : Int), x = .string (toB (frontL s.data.toList)) ∧ r = .int .i64 rv ∧ i = .int .i64 k ∧ (frontL s.data.toList).length ≤ k ∧ RevOk s.data.toList rv := by
  have e := Lib.size_eq s
  rcases h with ⟨k, hk, hx, hr, hi, hn⟩ | ⟨rv, hx, hr, hi, h⟩
  · by_cases hlt : k < s.size
    · exact .inl ⟨k, hlt, hx, hr, hi, hn⟩
    · rw [List.take_of_length_le (by omega)] at hn
      obtain ⟨h1, h2⟩ := cut_none hn
      exact .inr ⟨k, 0, by rw [hx, h2], hr, hi, by rw [h2]; omega, .inr ⟨h1, rfl⟩⟩
  · exact .inr ⟨_, rv, hx, hr, hi, by omega, h⟩
theorem rightV_of {l : List UInt8} {r : Int} (h : RevOk l r) : rightV l = (decide ((bits 46 (frontL l)).length ≤ 4) && (bits 46 (frontL l)).all numL) ∧ (rightV l = true → (revV l : Int) = r ∧ numsV l = (bits 46 (frontL l)).map valN) := by
  have h1 : rightV l = (decide ((bits 46 (frontL l)).length ≤ 4) && (bits 46 (frontL l)).all numL) := by
    unfold rightV
    rcases h with ⟨a, b, c, _⟩ | ⟨a, _⟩
    · rw [a, b, decide_eq_true c]; rfl
    · rw [a]; rfl
  refine ⟨h1, fun h2 => ?_⟩
  unfold revV numsV
  rw [if_pos h2, if_pos h2]
  refine ⟨?_, rfl⟩
  rcases h with ⟨a, b, c, d⟩ | ⟨a, d⟩
  · rw [if_pos a, d]
  · rw [if_neg (by rw [a]; decide), d]; rfl
theorem byte_is (c : UInt8) (n : Nat) (d : UInt8) (hd : d.toNat = n) : ((c.toNat : Int) == (n : Int)) = decide (c = d) := by
  rw [Bool.eq_iff_iff, beq_iff_eq, decide_eq_true_iff]
  constructor
  · intro h; apply UInt8.toNat_inj.1; omega
  · rintro rfl; omega
theorem src_oneV (w : World) (u : Value) (T : TypeId) (h : u.oneCell' = true) : Src (w.alloc (.cells #[u] T)) (.slice (some ⟨w.heap.size, 0, none⟩) 1 1) 1 [u] := by
  refine .inr ⟨_, _, rfl, fun j x hj => ?_, fun x hx => by rw [List.mem_singleton.1 hx]; exact h⟩
  rw [Addr.add_mid, Nat.zero_add, World.cell?_alloc_new]
  simpa using hj
/-- What the document's Parse gives. -/
def RefPost (w : World) (l : List UInt8) (e : Ending) (w' : World) : Prop := ∃ v ns r, e = .returned (.tuple #[v, .int .i64 r, .bool (rightV l)]) ∧ Own w w' [rowN v ns] ∧ (rightV l = true → ns = numsV l ∧ r = (revV l : Int))
theorem refPost_no {w w' : World} {l : List UInt8} (h : rightV l = false) (hb : Below w.heap.size w w') : RefPost w l (.returned (.tuple #[.slice none 0 0, .int .i64 0, .bool false])) w' :=
  ⟨_, [], 0, by rw [h], (Own.of_below hb).nil 3 1, fun k => by rw [h] at k; cases k⟩
def PcRel (w : World) (f : List UInt8) (v fr i : Value) (wr : World) : Prop :=
  ∃ (done : List (List UInt8)) (a k : Nat), k ≤ f.length + 1 ∧ a ≤ k ∧ fr = .int .i64 a ∧ i = .int .i64 k ∧ done.all numL = true ∧ Own w wr [rowN v (done.map valN)] ∧ VCut 46 f done a k
theorem rowN_push {W0 : Base} {w : World} {v : Value} {done : List (List UInt8)} {p : List UInt8} {L : List Rw} (h : Own W0 w (⟨3, 1, v, done.length + 1, ((done.map valN).map fun (n : Nat) => Value.int .i64 (n : Int)) ++ [.int .i64 (valN p : Int)]⟩ :: L)) : Own W0 w (rowN v ((done ++ [p]).map valN) :: L) := by
  have e : (⟨3, 1, v, done.length + 1, ((done.map valN).map fun (n : Nat) => Value.int .i64 (n : Int)) ++ [.int .i64 (valN p : Int)]⟩ : Rw) = rowN v ((done ++ [p]).map valN) := by
    simp [rowN]
  rw [← e]; exact h
theorem ext_list (s : ByteArray) (a b : Nat) : s.extract a b = toB ((s.data.toList.drop a).take (b - a)) := by
  apply ByteArray.ext; rw [← Array.toList_inj, Lib.extract_data]
theorem ext_toB (f : List UInt8) (a b : Nat) : (toB f).extract a b = toB ((f.drop a).take (b - a)) := ext_list (toB f) a b
theorem refnum_list (l : List UInt8) (w : World) (hl : l.length ≤ 1000000) : Calls Tryz.prog 73 #[.string (toB l)] w fun e w' => e = .returned (.int .i64 (refN l)) ∧ w = w' :=
  refnum_any (toB l) w (by rw [toB_size]; unfold maxLen; omega)
end Go.Proofs.YtihnjhigemhknaaGreatDoor
end

/- The document's Parse: its walk. -/
section
namespace Go.Proofs.YtihnjhigemhknaaGreatDoor
open Go.RowKit
set_option linter.unusedVariables false
set_option linter.unusedSimpArgs false
set_option maxRecDepth 100000

set_option maxHeartbeats 8000000 in
theorem refparse_any (s : ByteArray) (w : World) (hs : s.size ≤ 100000) : Calls Tryz.prog 53 #[.string s] w (RefPost w s.data.toList) := by
  have e0 := Lib.size_eq s
  have hcl := cut_le s.data.toList
  have Hst := Lib.hid (show DashRel s (.string s) (.int .i64 0) (.int .i64 0) from .inl ⟨0, Nat.zero_le _, rfl, rfl, rfl, by simp⟩)
  have HR := fun w1 => refnum_list (restL s.data.toList) w1 (by omega)
  have HPc := fun (p : List UInt8) (hp : p.length ≤ 1000000) w1 => refnum_list p w1 hp
  have E0 := Lib.hid e0
  have Hcl := Lib.hid hcl
  clear e0 hcl
  obtain ⟨i0, hi, hz0, hz1, hz2⟩ := int_info
  go_enter Tryz.func53, Tryz.ntmps53
  go_wp2_with fail
  go_loop [0, 5, 6] (fun x r i => DashRel s x r i) (fun _ _ i => s.size + 1 - (intOf i).toNat)
  case atStart => exact Hst.out
  case round =>
    clear Hst
    rcases hrel.ways with ⟨k, hk, rfl, rfl, rfl, hn⟩ | ⟨k, rv, rfl, rfl, rfl, hk, hok⟩
    · have hb := byte_is s[k] 45 45 rfl
      by_cases h4 : s[k] = 45
      · rw [decide_eq_true h4] at hb
        obtain ⟨c1, c2, c3⟩ := cut_first (l := s.data.toList) (k := k) (by rw [← E0.out]; exact hk) hn h4
        have hX : s.extract (k + 1) s.size = toB (restL s.data.toList) := by rw [ext_list, c3, List.take_of_length_le]; rw [List.length_drop, ← E0.out]; omega
        have HF := Lib.hid (show s.extract 0 k = toB (frontL s.data.toList) by rw [ext_list, c2]; simp)
        have hkf : (frontL s.data.toList).length = k := by rw [c2, List.length_take, ← E0.out]; omega
        have hcall := HR w
        rw [← hX] at hcall
        clear hrel hn h4 hX
        by_cases hnum : numL (restL s.data.toList) = true ∧ valN (restL s.data.toList) ≠ 0
        · have hv := valN_le hnum.1
          have HY := Lib.hid (show ∀ x r i, x = .string (toB (frontL s.data.toList)) → r = .int .i64 (valN (restL s.data.toList) : Int) → i = .int .i64 ((k + 1 : Nat) : Int) → DashRel s x r i from fun x r i hx hr hi => .inr ⟨_, hx, hr, by rw [hi, hkf], .inl ⟨c1, hnum.1, hnum.2, rfl⟩⟩)
          have hpos : ¬ (valN (restL s.data.toList) : Int) < 1 := by omega
          rw [refN_yes hnum.1] at hcall
          clear hnum c1 c2 c3 hkf
          generalize valN (restL s.data.toList) = n at *
          go_wp2_with fail
          refine hcall.mono ?_
          rintro e w1 ⟨rfl, rfl⟩
          clear hcall
          go_wp2_with fail
          go_round
          case rel => exact HY.out _ _ _ (by rw [HF.out]) (by go_num) (by go_num)
          case measure => simp [intOf]; omega
        · have HN := Lib.hid (refPost_no (w := w) (rightV_no1 c1 (by
            by_cases h5 : numL (restL s.data.toList) = true
            · exact .inr (Decidable.byContradiction fun k => hnum ⟨h5, k⟩)
            · exact .inl (by simpa using h5))) (Below.refl _ w))
          have hneg : refN (restL s.data.toList) < 1 := by
            unfold refN
            split
            · rename_i h5
              have : ¬ valN (restL s.data.toList) ≠ 0 := fun k => hnum ⟨h5, k⟩
              omega
            · omega
          clear hnum c1 c2 c3 hkf
          generalize refN (restL s.data.toList) = n at *
          go_wp2_with fail
          refine hcall.mono ?_
          rintro e w1 ⟨rfl, rfl⟩
          clear hcall
          go_wp2_with fail
          go_ret3
          exact HN.out
      · rw [decide_eq_false h4] at hb
        have HY := Lib.hid (show ∀ x r i, x = .string s → r = .int .i64 0 → i = .int .i64 ((k + 1 : Nat) : Int) → DashRel s x r i from fun x r i hx hr hi => .inl ⟨k + 1, hk, hx, hr, hi, not_mem_succ hk hn h4⟩)
        clear hrel hn h4
        go_wp2_with fail
        go_round
        case rel => exact HY.out _ _ _ rfl rfl (by go_num)
        case measure => simp [intOf]; omega
    · have hfl : (frontL s.data.toList).length ≤ 100000 := by have := Hcl.out.1; have := E0.out; omega
      obtain ⟨hr1, hr2⟩ := rightV_of hok
      have Hr1 := Lib.hid hr1
      have Hr2 := Lib.hid hr2
      have Hst2 := Lib.hid (show PcRel w (frontL s.data.toList) (.slice (some ⟨w.heap.size, 0, none⟩) 0 0) (.int .i64 0) (.int .i64 0) (w.alloc (.cells #[] 3)) from ⟨[], 0, 0, by omega, Nat.le_refl _, rfl, rfl, rfl, (Own.start w).made 3 1 #[] 0 rfl (by unfold maxLen; omega), VCut.start 46 _⟩)
      clear hrel hr1 hr2 hok HR Hcl E0
      obtain ⟨F, hF⟩ : ∃ F, toB (frontL s.data.toList) = F := ⟨_, rfl⟩
      have hFl : frontL s.data.toList = F.data.toList := by rw [← hF]
      rw [hF]
      rw [hFl] at hk hfl Hr1 Hr2 Hst2
      clear hF hFl
      have Hsz := Lib.hid (Lib.size_eq F)
      have hFs : F.size ≤ 100000 := by rw [Hsz.out]; exact hfl
      have hkF : ¬ (k : Int) < (F.size : Int) := by have := Hsz.out; omega
      go_wp2_with fail
      clear hkF
      go_loopw [7, 8, 9] (fun v fr i wr => PcRel w F.data.toList v fr i wr) (fun _ _ i _ => F.size + 1 - (intOf i).toNat)
      case atStart => exact Hst2.out
      case round =>
        clear Hst2
        obtain ⟨done, a, k2, hk2, ha, rfl, rfl, hall, hO, hC⟩ := hrel
        rw [← Hsz.out] at hk2
        have hfew := hC.few 100000 (by rw [← Hsz.out]; exact hFs)
        by_cases hlt : k2 ≤ F.size
        · by_cases hend : k2 = F.size
          · have hC3 := hC.stop (by rw [← Hsz.out]; exact hend)
            have e1 : ((k2 : Int) == (F.size : Int)) = true := by rw [beq_iff_eq]; omega
            have e2 : (k2 == F.size) = true := by simpa using hend
            clear hend
            have hp := hC3.piece
            have hplen : ((F.data.toList.drop a).take (k2 - a)).length ≤ 1000000 := by rw [List.length_take, List.length_drop, ← Hsz.out]; omega
            have hX : F.extract a k2 = toB ((F.data.toList.drop a).take (k2 - a)) := ext_list F a k2
            have hcall := HPc _ hplen wr
            rw [← hX] at hcall
            have HC3 := Lib.hid hC3
            clear hC3 hX hplen hC
            generalize hpd : (F.data.toList.drop a).take (k2 - a) = p at *
            clear hpd
            by_cases hg : numL p = true
            · rw [refN_yes hg] at hcall
              have hv := valN_le hg
              have Hall := Lib.hid (show (done ++ [p]).all numL = true by rw [List.all_append, hall, List.all_cons, hg]; rfl)
              have hnn : ¬ (valN p : Int) < 0 := by omega
              have hdl : (done.map valN).length = done.length := List.length_map ..
              obtain ⟨aq, cq, hu7, _, _⟩ := Own.sized (h := (show Own w wr (⟨3, 1, u7, (done.map valN).length, (done.map valN).map fun (n : Nat) => Value.int .i64 (n : Int)⟩ :: []) from hO))
              rw [hdl] at hu7
              have HO := Lib.hid (show Own w (wr.alloc (.cells #[.int .i64 (valN p : Int)] 3)) [⟨3, 1, u7, done.length, (done.map valN).map fun (n : Nat) => Value.int .i64 (n : Int)⟩] from by
                have h9 := hO.alloc (.cells #[.int .i64 (valN p : Int)] 3)
                unfold rowN at h9
                rw [hdl] at h9
                exact h9)
              have Hsrc := Lib.hid (src_oneV wr (.int .i64 (valN p : Int)) 3 rfl)
              have Hb1 := Lib.hid (show done.length + 1 ≤ maxLen by unfold maxLen; omega)
              have Hb2 := Lib.hid (show (done.length + 1) * 8 ≤ 140737488355328 by omega)
              subst hu7
              clear hO hall hp hg hdl
              obtain ⟨xs, hxs⟩ : ∃ xs, ((done.map valN).map fun (n : Nat) => Value.int .i64 (n : Int)) = xs := ⟨_, rfl⟩
              rw [hxs] at HO
              have Hxs := Lib.hid hxs
              clear hxs
              obtain ⟨np, hnp⟩ : ∃ np, valN p = np := ⟨_, rfl⟩
              rw [hnp] at hcall hv hnn HO Hsrc
              have Hnp := Lib.hid hnp
              clear hnp
              go_wp2_with fail
              refine hcall.mono ?_
              rintro e w1 ⟨rfl, rfl⟩
              clear hcall
              go_wp2_with (at_builtin; refine wpList_append_src rfl (.tmp 55) (.tmp 57) 71 rfl (.slice aq done.length cq) done.length xs (.slice (some ⟨wr.heap.size, 0, none⟩) 1 1) 1 [.int .i64 (np : Int)] rfl rfl HO.out i0 (.int .i64 0) 8 Tryz.underlying71 hi hz0 hz1 hz2 rfl (by decide) Hsrc.out rfl Hb1.out Hb2.out ?_)
              intro v2 w2 hO2
              have HX2 := Lib.hid (show ∀ fr i, fr = .int .i64 ((k2 + 1 : Nat) : Int) → i = .int .i64 ((k2 + 1 : Nat) : Int) → PcRel w F.data.toList v2 fr i w2 from fun fr i hfr hi => ⟨done ++ [p], k2 + 1, k2 + 1, by have := Hsz.out; omega, Nat.le_refl _, hfr, hi, Hall.out, rowN_push (by rw [Hnp.out, Hxs.out]; exact hO2), HC3.out⟩)
              obtain ⟨a9, c9, hv9, _, _⟩ := Own.sized (h := hO2)
              subst hv9
              clear hO2 HO Hsrc Hb1 Hb2 Hall HC3 Hxs Hnp
              have hsz2 := Hsz.out
              go_wp2_with fail
              go_roundw
              case rel => exact HX2.out _ _ (by go_num) (by go_num)
              case measure => simp [intOf]; omega
            · have hg : numL p = false := by simpa using hg
              rw [refN_no hg] at hcall
              have HN := Lib.hid (refPost_no (w := w) (w' := wr) (l := s.data.toList) (by rw [Hr1.out, show (bits 46 F.data.toList).all numL = false from List.all_eq_false.2 ⟨p, hp, by rw [hg]; decide⟩, Bool.and_false]) hO.below)
              clear hO hall hp hg HC3
              go_wp2_with fail
              refine hcall.mono ?_
              rintro e w1 ⟨rfl, rfl⟩
              clear hcall
              go_wp2_with fail
              go_ret3
              exact HN.out
          · have hk3 : k2 < F.size := by omega
            have e1 : ((k2 : Int) == (F.size : Int)) = false := by rw [beq_eq_false_iff_ne]; omega
            have e2 : (k2 == F.size) = false := by simpa using hend
            have e3 : (k2 : Int) < (F.size : Int) := by omega
            have hb := byte_is F[k2] 46 46 rfl
            have hkl : k2 < F.data.toList.length := by rw [← Hsz.out]; exact hk3
            by_cases h4 : F[k2] = 46
            · rw [decide_eq_true h4] at hb
              have hC3 := hC.mark hkl (show F.data.toList[k2] = 46 from h4)
              clear hend hkl h4
              have hp := hC3.piece
              have hplen : ((F.data.toList.drop a).take (k2 - a)).length ≤ 1000000 := by rw [List.length_take, List.length_drop, ← Hsz.out]; omega
              have hX : F.extract a k2 = toB ((F.data.toList.drop a).take (k2 - a)) := ext_list F a k2
              have hcall := HPc _ hplen wr
              rw [← hX] at hcall
              have HC3 := Lib.hid hC3
              clear hC3 hX hplen hC
              generalize hpd : (F.data.toList.drop a).take (k2 - a) = p at *
              clear hpd
              by_cases hg : numL p = true
              · rw [refN_yes hg] at hcall
                have hv := valN_le hg
                have Hall := Lib.hid (show (done ++ [p]).all numL = true by rw [List.all_append, hall, List.all_cons, hg]; rfl)
                have hnn : ¬ (valN p : Int) < 0 := by omega
                have hdl : (done.map valN).length = done.length := List.length_map ..
                obtain ⟨aq, cq, hu7, _, _⟩ := Own.sized (h := (show Own w wr (⟨3, 1, u7, (done.map valN).length, (done.map valN).map fun (n : Nat) => Value.int .i64 (n : Int)⟩ :: []) from hO))
                rw [hdl] at hu7
                have HO := Lib.hid (show Own w (wr.alloc (.cells #[.int .i64 (valN p : Int)] 3)) [⟨3, 1, u7, done.length, (done.map valN).map fun (n : Nat) => Value.int .i64 (n : Int)⟩] from by
                  have h9 := hO.alloc (.cells #[.int .i64 (valN p : Int)] 3)
                  unfold rowN at h9
                  rw [hdl] at h9
                  exact h9)
                have Hsrc := Lib.hid (src_oneV wr (.int .i64 (valN p : Int)) 3 rfl)
                have Hb1 := Lib.hid (show done.length + 1 ≤ maxLen by unfold maxLen; omega)
                have Hb2 := Lib.hid (show (done.length + 1) * 8 ≤ 140737488355328 by omega)
                subst hu7
                clear hO hall hp hg hdl
                obtain ⟨xs, hxs⟩ : ∃ xs, ((done.map valN).map fun (n : Nat) => Value.int .i64 (n : Int)) = xs := ⟨_, rfl⟩
                rw [hxs] at HO
                have Hxs := Lib.hid hxs
                clear hxs
                obtain ⟨np, hnp⟩ : ∃ np, valN p = np := ⟨_, rfl⟩
                rw [hnp] at hcall hv hnn HO Hsrc
                have Hnp := Lib.hid hnp
                clear hnp
                go_wp2_with fail
                refine hcall.mono ?_
                rintro e w1 ⟨rfl, rfl⟩
                clear hcall
                go_wp2_with (at_builtin; refine wpList_append_src rfl (.tmp 55) (.tmp 57) 71 rfl (.slice aq done.length cq) done.length xs (.slice (some ⟨wr.heap.size, 0, none⟩) 1 1) 1 [.int .i64 (np : Int)] rfl rfl HO.out i0 (.int .i64 0) 8 Tryz.underlying71 hi hz0 hz1 hz2 rfl (by decide) Hsrc.out rfl Hb1.out Hb2.out ?_)
                intro v2 w2 hO2
                have HX2 := Lib.hid (show ∀ fr i, fr = .int .i64 ((k2 + 1 : Nat) : Int) → i = .int .i64 ((k2 + 1 : Nat) : Int) → PcRel w F.data.toList v2 fr i w2 from fun fr i hfr hi => ⟨done ++ [p], k2 + 1, k2 + 1, by have := Hsz.out; omega, Nat.le_refl _, hfr, hi, Hall.out, rowN_push (by rw [Hnp.out, Hxs.out]; exact hO2), HC3.out⟩)
                obtain ⟨a9, c9, hv9, _, _⟩ := Own.sized (h := hO2)
                subst hv9
                clear hO2 HO Hsrc Hb1 Hb2 Hall HC3 Hxs Hnp
                have hsz2 := Hsz.out
                go_wp2_with fail
                go_roundw
                case rel => exact HX2.out _ _ (by go_num) (by go_num)
                case measure => simp [intOf]; omega
              · have hg : numL p = false := by simpa using hg
                rw [refN_no hg] at hcall
                have HN := Lib.hid (refPost_no (w := w) (w' := wr) (l := s.data.toList) (by rw [Hr1.out, show (bits 46 F.data.toList).all numL = false from List.all_eq_false.2 ⟨p, hp, by rw [hg]; decide⟩, Bool.and_false]) hO.below)
                clear hO hall hp hg HC3
                go_wp2_with fail
                refine hcall.mono ?_
                rintro e w1 ⟨rfl, rfl⟩
                clear hcall
                go_wp2_with fail
                go_ret3
                exact HN.out
            · rw [decide_eq_false h4] at hb
              have HC3 := Lib.hid (hC.on hkl (show F.data.toList[k2] ≠ 46 from h4))
              have HX2 := Lib.hid (show ∀ i, i = .int .i64 ((k2 + 1 : Nat) : Int) → PcRel w F.data.toList u7 (.int .i64 a) i wr from fun i hi => ⟨done, a, k2 + 1, by have := Hsz.out; omega, by omega, rfl, hi, hall, hO, HC3.out⟩)
              have hbi : ¬ (F[k2].toNat : Int) = 46 := by simpa using hb
              clear hend h4 hall hO hC HC3
              go_wp2_with fail
              go_roundw
              case rel => exact HX2.out _ (by go_num)
              case measure => simp [intOf]; omega
        · have hde := hC.ended (by rw [← Hsz.out]; exact hlt)
          rw [hde] at Hr1 Hr2
          have hdl : (done.map valN).length = done.length := List.length_map ..
          obtain ⟨aq, cq, hu7, _, _⟩ := Own.sized (h := (show Own w wr (⟨3, 1, u7, (done.map valN).length, (done.map valN).map fun (n : Nat) => Value.int .i64 (n : Int)⟩ :: []) from hO))
          rw [hdl] at hu7
          have Hdec := Lib.hid (show decide ((done.length : Int) ≤ 4) = rightV s.data.toList by
            rw [Hr1.out, hall, Bool.and_true, Bool.eq_iff_iff, decide_eq_true_iff, decide_eq_true_iff]; omega)
          subst hu7
          have HO := Lib.hid hO
          clear hO hC hall hde hdl
          go_wp2_with fail
          go_ret3
          exact ⟨.slice aq done.length cq, done.map valN, rv, by rw [← Hdec.out]; rfl, HO.out, fun h => ⟨((Hr2.out h).2).symm, ((Hr2.out h).1).symm⟩⟩
end Go.Proofs.YtihnjhigemhknaaGreatDoor
end

/- Whether a text is a version, whether one begins with another one: as the document has it. -/
section
namespace Go.Proofs.YtihnjhigemhknaaGreatDoor
open Go.RowKit
set_option linter.unusedVariables false
set_option linter.unusedSimpArgs false
set_option maxRecDepth 100000

set_option maxHeartbeats 2000000 in
theorem refversion_any (s : ByteArray) (w : World) (hs : s.size ≤ 100000) : Calls Tryz.prog 29 #[.string s] w fun e w' => e = .returned (.bool (rightV s.data.toList)) ∧ Below w.heap.size w w' := by
  have hp := refparse_any s w hs
  unfold RefPost at hp
  go_enter Tryz.func29, Tryz.ntmps29
  go_wp2_with fail
  refine hp.mono ?_
  rintro e w2 ⟨v, ns, r, rfl, hO, _⟩
  have HB := Lib.hid hO.below
  clear hO hp
  go_wp2_with fail
  go_ret
  exact ⟨rfl, HB.out⟩
theorem pre_str (s t : ByteArray) (h : t.size ≤ s.size) : ((s.extract 0 t.size).toList == t.toList) = decide (t.data.toList <+: s.data.toList) := by
  rw [Lib.toList_data, Lib.toList_data, Bool.eq_iff_iff, decide_eq_true_iff, beq_iff_eq]
  have e : (s.extract 0 t.size).data.toList = s.data.toList.take t.data.toList.length := by
    rw [ext_list]
    show List.take (t.size - 0) (List.drop 0 s.data.toList) = _
    rw [List.drop_zero, Nat.sub_zero]
    rfl
  rw [e, List.prefix_iff_eq_take]
  exact ⟨fun h => h.symm, fun h => h.symm⟩
set_option maxHeartbeats 2000000 in
theorem refbegins_any (s t : ByteArray) (w : World) (hs : s.size ≤ maxLen) (ht : t.size ≤ maxLen) : Calls Tryz.prog 31 #[.string s, .string t] w fun e w' => e = .returned (.bool (decide (t.data.toList <+: s.data.toList))) ∧ w = w' := by
  unfold maxLen at hs ht
  by_cases h : t.size ≤ s.size
  · have hq := pre_str s t h
    obtain ⟨b, hb⟩ : ∃ b, decide (t.data.toList <+: s.data.toList) = b := ⟨_, rfl⟩
    rw [hb] at hq ⊢
    clear hb
    have h2 : (t.size : Int) ≤ (s.size : Int) := by omega
    have h3 : ¬ (s.size : Int) < (t.size : Int) := by omega
    clear h
    go_enter Tryz.func31, Tryz.ntmps31
    go_wp2_with fail
    go_ret
    exact ⟨rfl, rfl⟩
  · have hb : decide (t.data.toList <+: s.data.toList) = false := by
      rw [decide_eq_false_iff_not]
      intro hp
      have h4 : t.size ≤ s.size := hp.length_le
      exact h h4
    rw [hb]
    have h2 : ¬ (t.size : Int) ≤ (s.size : Int) := by omega
    have h3 : (s.size : Int) < (t.size : Int) := by omega
    clear h hb
    go_enter Tryz.func31, Tryz.ntmps31
    go_wp2_with fail
    go_ret
    exact ⟨rfl, rfl⟩
end Go.Proofs.YtihnjhigemhknaaGreatDoor
end

/- Plain: a package as the document has it. -/
section
namespace Go.Proofs.YtihnjhigemhknaaGreatDoor
open Go.RowKit
set_option linter.unusedVariables false
set_option linter.unusedSimpArgs false
set_option maxRecDepth 100000

def rowQ (H : Nat) (cs : List Value) : Rw := ⟨32, 6, .slice (some ⟨H, 0, none⟩) 1 1, 1, cs⟩
theorem q6_cells {W0 : Base} {w : World} {L : List Rw} {H : Nat} {a b c d e f : Value} (h : Own W0 w L) (hm : rowQ H [a, b, c, d, e, f] ∈ L) : (w.cell? ⟨H, 0, none⟩ = some a ∧ w.cell? ⟨H, 1, none⟩ = some b ∧ w.cell? ⟨H, 2, none⟩ = some c ∧ w.cell? ⟨H, 3, none⟩ = some d ∧ w.cell? ⟨H, 4, none⟩ = some e ∧ w.cell? ⟨H, 5, none⟩ = some f) ∧ (w.frozen? ⟨H, 0, none⟩ = false ∧ w.frozen? ⟨H, 1, none⟩ = false ∧ w.frozen? ⟨H, 2, none⟩ = false ∧ w.frozen? ⟨H, 3, none⟩ = false ∧ w.frozen? ⟨H, 4, none⟩ = false ∧ w.frozen? ⟨H, 5, none⟩ = false) ∧ w.rangeAt H 0 [a, b, c, d, e, f] := by
  have h1 := h.only hm
  exact ⟨⟨Own.cell (h := h1) 0 (by decide), Own.cell (h := h1) 1 (by decide), Own.cell (h := h1) 2 (by decide), Own.cell (h := h1) 3 (by decide), Own.cell (h := h1) 4 (by decide), Own.cell (h := h1) 5 (by decide)⟩, ⟨Own.free (h := h1) 0, Own.free (h := h1) 1, Own.free (h := h1) 2, Own.free (h := h1) 3, Own.free (h := h1) 4, Own.free (h := h1) 5⟩, Own.range (h := h1) 0 6⟩
theorem q6_set {W0 : Base} {w : World} {A B : List Rw} {H : Nat} {cs : List Value} (h : Own W0 w (A ++ rowQ H cs :: B)) (hl : cs.length = 6) (ds : List Value) (hd : ds.length = 6) : Own W0 (w.setCells H 0 ds) (rowQ H ds :: (A ++ B)) := by
  have h1 := h.perm List.perm_middle
  have h2 := Own.setCells (h := (show Own W0 w (⟨32, 6, .slice (some ⟨H, 0, none⟩) 1 1, 1, cs⟩ :: (A ++ B)) from h1)) ds 0
  rw [splice_all' cs ds (by omega)] at h2
  exact h2
theorem src_three_at (w : World) (a b c : Value) (T : TypeId) (g : Nat) (hg : g = w.heap.size) (ha : a.oneCell' = true) (hb : b.oneCell' = true) (hc : c.oneCell' = true) : Src (w.alloc (.cells #[a, b, c] T)) (.slice (some ⟨g, 0, none⟩) 1 1) 1 [a, b, c] := by
  subst hg
  exact src_three w a b c T ha hb hc
theorem flat_step {α : Type} (cells : α → List Value) (xs : List α) (k : Nat) (h : k < xs.length) : ((xs.take (k + 1)).map cells).flatten = ((xs.take k).map cells).flatten ++ cells xs[k] := by
  rw [List.take_add_one, List.getElem?_eq_getElem h, List.map_append, List.flatten_append]
  simp
theorem info_needR : (Tryz.prog.info? 54).map (fun i => (i.zero, i.size, i.bytes)) = some (some (.agg #[.string ⟨#[]⟩, .int .i64 0, .string ⟨#[]⟩]), 3, 40) := by kernel_rfl
theorem info_fileR : (Tryz.prog.info? 55).map (fun i => (i.zero, i.size, i.bytes)) = some (some (.agg #[.string ⟨#[]⟩, .bool false, .slice none 0 0]), 3, 48) := by kernel_rfl
theorem rowE_at {α : Type} {W0 : Base} {w : World} {L : List Rw} {T : TypeId} {size : Nat} {cells : α → List Value} {a : Option Addr} {c : Nat} {ns : List α} (h : Own W0 w L) (hm : (⟨T, size, .slice a ns.length c, ns.length, (ns.map cells).flatten⟩ : Rw) ∈ L) (hs : ∀ x, (cells x).length = size) : SlcA w a size (ns.map cells) ∧ ns.length ≤ c := by
  obtain ⟨a', c', e, hc, hS⟩ := rowE_slc (v := .slice a ns.length c) h hm hs
  injection e with e1 _ e3
  subst e1 e3
  exact ⟨hS, hc⟩
set_option maxHeartbeats 16000000 in
theorem plain_any (D : PkgD) (P : PkL) (w : World) (hD : PkAt w D P) (hf : Fits D) :
    Calls Tryz.prog 8 #[.agg #[.string D.name, .string D.ver, .slice P.an D.needs.length P.cn, .slice P.ac D.confs.length P.cc, .slice P.af D.files.length P.cf, .slice P.au D.units.length P.cu]] w fun e w' => ∃ P' : PkL, e = .returned (.agg #[.string D.name, .string D.ver, .slice P'.an D.needs.length P'.cn, .slice P'.ac D.confs.length P'.cc, .slice P'.af D.files.length P'.cf, .slice P'.au D.units.length P'.cu]) ∧ PkAt w' D P' ∧ Below w.heap.size w w' := by
  have hO1 := (Own.start w).made 26 6 #[.string D.name, .string D.ver, .slice P.an D.needs.length P.cn, .slice P.ac D.confs.length P.cc, .slice P.af D.files.length P.cf, .slice P.au D.units.length P.cu] 1 rfl (by unfold maxLen; decide)
  have s1 : w.heap.size + 1 = (w.alloc (.cells #[.string D.name, .string D.ver, .slice P.an D.needs.length P.cn, .slice P.ac D.confs.length P.cc, .slice P.af D.files.length P.cf, .slice P.au D.units.length P.cu] 26)).heap.size := by simp
  have hO2 := hO1.made_at 32 6 #[.string ⟨#[]⟩, .string ⟨#[]⟩, .slice none 0 0, .slice none 0 0, .slice none 0 0, .slice none 0 0] 1 (w.heap.size + 1) s1 rfl (by unfold maxLen; decide)
  have s2 : w.heap.size + 1 + 1 = ((w.alloc (.cells #[.string D.name, .string D.ver, .slice P.an D.needs.length P.cn, .slice P.ac D.confs.length P.cc, .slice P.af D.files.length P.cf, .slice P.au D.units.length P.cu] 26)).alloc (.cells #[.string ⟨#[]⟩, .string ⟨#[]⟩, .slice none 0 0, .slice none 0 0, .slice none 0 0, .slice none 0 0] 32)).heap.size := by simp
  have hO3 := hO2.made_at 32 6 #[.string D.name, .string D.ver, .slice none 0 0, .slice P.ac D.confs.length P.cc, .slice none 0 0, .slice P.au D.units.length P.cu] 1 (w.heap.size + 1 + 1) s2 rfl (by unfold maxLen; decide)
  have HO3 := Lib.hid (show Own w _ [rowQ (w.heap.size + 1 + 1) [.string D.name, .string D.ver, .slice none 0 0, .slice P.ac D.confs.length P.cc, .slice none 0 0, .slice P.au D.units.length P.cu], rowQ (w.heap.size + 1) zP6, rowPk w.heap.size D P] from hO3)
  have HD := Lib.hid hD
  have HF := Lib.hid hf
  obtain ⟨infn, n0, n1, n2, n3⟩ := info3 info_needR
  obtain ⟨inff, g0, g1, g2, g3⟩ := info3 info_fileR
  have b2 := hf.needs
  have b4 := hf.files
  have hir : (Tryz.prog.info? 32).map (·.size) = some 6 := by kernel_rfl
  clear hO1 hO2 hO3 s1 s2 hD hf
  go_enter Tryz.func8, Tryz.ntmps8
  go_wp2_with fail
  go_loopw [20] (fun iv wr => ∃ (k : Nat) (va : Option Addr) (vc : Nat), iv = .int .i64 k ∧ k ≤ D.needs.length ∧ Own w wr [⟨54, 3, .slice va k vc, k, ((D.needs.take k).map NeedD.cells).flatten⟩, rowQ (w.heap.size + 1 + 1) [.string D.name, .string D.ver, .slice va k vc, .slice P.ac D.confs.length P.cc, .slice none 0 0, .slice P.au D.units.length P.cu], rowQ (w.heap.size + 1) zP6, rowPk w.heap.size D P]) (fun iv _ => D.needs.length - (intOf iv).toNat)
  case atStart => exact ⟨0, none, 0, rfl, Nat.zero_le _, HO3.out.nil _ _⟩
  case round =>
    clear HO3
    obtain ⟨k, va, vc, rfl, hk, hO⟩ := hrel
    have HO := Lib.hid hO
    clear hO
    by_cases hlt : k < D.needs.length
    · obtain ⟨g, o, hg, hr⟩ := HD.out.needs.later HO.out.below k (by rw [List.length_map]; exact hlt)
      rw [List.getElem_map] at hr
      have q0 := hr 0 _ rfl
      have q1 := hr 1 _ rfl
      have q2 := hr 2 _ rfl
      rw [Nat.add_zero] at q0
      have HS := Lib.hid (flat_step NeedD.cells D.needs k hlt)
      clear hr
      generalize D.needs[k] = x at *
      obtain ⟨⟨_, _, c2, _, _, _⟩, _, _⟩ := q6_cells HO.out (H := w.heap.size + 1 + 1) (a := .string D.name) (b := .string D.ver) (c := .slice va k vc) (d := .slice P.ac D.confs.length P.cc) (e := .slice none 0 0) (f := .slice P.au D.units.length P.cu) (by simp)
      have l2 := World.block_lt_of_cell? _ _ c2
      rw [hg]
      have hA := HO.out.alloc (.cells #[Value.string x.name, .int .i64 x.way, .string x.ver] 53)
      have s4 : wr.heap.size + 1 = (wr.alloc (.cells #[Value.string x.name, .int .i64 x.way, .string x.ver] 53)).heap.size := by simp
      have HB := Lib.hid (hA.alloc (.cells #[Value.string x.name, .int .i64 x.way, .string x.ver] 54))
      have Hsrc := Lib.hid (src_three_at (wr.alloc (.cells #[Value.string x.name, .int .i64 x.way, .string x.ver] 53)) (.string x.name) (.int .i64 x.way) (.string x.ver) 54 (wr.heap.size + 1) s4 rfl rfl rfl)
      have Hb1 := Lib.hid (show k + 1 ≤ maxLen by unfold maxLen; omega)
      have Hb2 := Lib.hid (show (k + 1) * 40 ≤ 140737488355328 by omega)
      obtain ⟨xs, hxs⟩ : ∃ xs, ((D.needs.take k).map NeedD.cells).flatten = xs := ⟨_, rfl⟩
      rw [hxs] at HB HS
      clear hA s4 HO hxs
      go_wp2_with (at_builtin; refine wpList_append_src rfl (.tmp 25) (.tmp 27) 29 rfl (.slice va k vc) k xs (.slice (some ⟨wr.heap.size + 1, 0, none⟩) 1 1) 1 [Value.string x.name, .int .i64 x.way, .string x.ver] rfl rfl HB.out infn (.agg #[.string ⟨#[]⟩, .int .i64 0, .string ⟨#[]⟩]) 40 Tryz.underlying29 n0 n1 n2 n3 rfl (by decide) Hsrc.out rfl Hb1.out Hb2.out ?_)
      intro v9 w9 hO9
      obtain ⟨a9, c9, rfl, _, _⟩ := Own.sized (h := hO9)
      obtain ⟨⟨_, _, d2, _, _, _⟩, ⟨_, _, f2, _, _, _⟩, _⟩ := q6_cells hO9 (H := w.heap.size + 1 + 1) (a := .string D.name) (b := .string D.ver) (c := .slice va k vc) (d := .slice P.ac D.confs.length P.cc) (e := .slice none 0 0) (f := .slice P.au D.units.length P.cu) (by simp)
      have HZ := Lib.hid ((Own.set (h := hO9.swap) 2 (.slice a9 (k + 1) c9)).swap)
      clear hO9 HB Hsrc Hb1 Hb2 q0 q1 q2 c2 l2
      go_wp2_with fail
      go_roundw
      case rel => exact ⟨k + 1, a9, c9, by go_num, hlt, by rw [HS.out]; exact HZ.out⟩
      case measure => simp [intOf]; omega
    · obtain rfl : k = D.needs.length := by omega
      rw [List.take_length] at HO
      obtain ⟨p0, p1, p2, p3, p4, p5⟩ := pk_cells HO.out (g := w.heap.size) (D := D) (P := P) (by simp)
      clear p0 p1 p2 p3 p5
      go_wp2_with fail
      clear p4
      go_loopw [34] (fun iv wq => ∃ (k : Nat) (ua : Option Addr) (uc : Nat), iv = .int .i64 k ∧ k ≤ D.files.length ∧ Own w wq [⟨55, 3, .slice ua k uc, k, ((D.files.take k).map FileD.cells).flatten⟩, rowQ (w.heap.size + 1 + 1) [.string D.name, .string D.ver, .slice va D.needs.length vc, .slice P.ac D.confs.length P.cc, .slice ua k uc, .slice P.au D.units.length P.cu], ⟨54, 3, .slice va D.needs.length vc, D.needs.length, (D.needs.map NeedD.cells).flatten⟩, rowQ (w.heap.size + 1) zP6, rowPk w.heap.size D P]) (fun iv _ => D.files.length - (intOf iv).toNat)
      case atStart => exact ⟨0, none, 0, rfl, Nat.zero_le _, HO.out.swap.nil _ _⟩
      case round =>
        clear HO
        obtain ⟨k, ua, uc, rfl, hk, hO⟩ := hrel
        have HO := Lib.hid hO
        clear hO
        by_cases hlt : k < D.files.length
        · obtain ⟨g, o, hg, hr⟩ := HD.out.files.later HO.out.below k (by rw [List.length_map]; exact hlt)
          rw [List.getElem_map] at hr
          have q0 := hr 0 _ rfl
          have q1 := hr 1 _ rfl
          have q2 := hr 2 _ rfl
          rw [Nat.add_zero] at q0
          have HS := Lib.hid (flat_step FileD.cells D.files k hlt)
          clear hr
          generalize D.files[k] = x at *
          obtain ⟨⟨_, _, _, _, c4, _⟩, _, _⟩ := q6_cells HO.out (H := w.heap.size + 1 + 1) (a := .string D.name) (b := .string D.ver) (c := .slice va D.needs.length vc) (d := .slice P.ac D.confs.length P.cc) (e := .slice ua k uc) (f := .slice P.au D.units.length P.cu) (by simp)
          have l4 := World.block_lt_of_cell? _ _ c4
          rw [hg]
          have hA := HO.out.alloc (.cells #[Value.string x.path, .bool x.config, .slice x.a x.data.length x.c] 51)
          have s4 : wr.heap.size + 1 = (wr.alloc (.cells #[Value.string x.path, .bool x.config, .slice x.a x.data.length x.c] 51)).heap.size := by simp
          have HB := Lib.hid (hA.alloc (.cells #[Value.string x.path, .bool x.config, .slice x.a x.data.length x.c] 55))
          have Hsrc := Lib.hid (src_three_at (wr.alloc (.cells #[Value.string x.path, .bool x.config, .slice x.a x.data.length x.c] 51)) (.string x.path) (.bool x.config) (.slice x.a x.data.length x.c) 55 (wr.heap.size + 1) s4 rfl rfl rfl)
          have Hb1 := Lib.hid (show k + 1 ≤ maxLen by unfold maxLen; omega)
          have Hb2 := Lib.hid (show (k + 1) * 48 ≤ 140737488355328 by omega)
          obtain ⟨xs, hxs⟩ : ∃ xs, ((D.files.take k).map FileD.cells).flatten = xs := ⟨_, rfl⟩
          rw [hxs] at HB HS
          clear hA s4 HO hxs
          go_wp2_with (at_builtin; refine wpList_append_src rfl (.tmp 39) (.tmp 41) 30 rfl (.slice ua k uc) k xs (.slice (some ⟨wr.heap.size + 1, 0, none⟩) 1 1) 1 [Value.string x.path, .bool x.config, .slice x.a x.data.length x.c] rfl rfl HB.out inff (.agg #[.string ⟨#[]⟩, .bool false, .slice none 0 0]) 48 Tryz.underlying30 g0 g1 g2 g3 rfl (by decide) Hsrc.out rfl Hb1.out Hb2.out ?_)
          intro v9 w9 hO9
          obtain ⟨a9, c9, rfl, _, _⟩ := Own.sized (h := hO9)
          obtain ⟨⟨_, _, _, _, d4, _⟩, ⟨_, _, _, _, f4, _⟩, _⟩ := q6_cells hO9 (H := w.heap.size + 1 + 1) (a := .string D.name) (b := .string D.ver) (c := .slice va D.needs.length vc) (d := .slice P.ac D.confs.length P.cc) (e := .slice ua k uc) (f := .slice P.au D.units.length P.cu) (by simp)
          have HZ := Lib.hid ((Own.set (h := hO9.swap) 4 (.slice a9 (k + 1) c9)).swap)
          clear hO9 HB Hsrc Hb1 Hb2 q0 q1 q2 c4 l4
          go_wp2_with fail
          go_roundw
          case rel => exact ⟨k + 1, a9, c9, by go_num, hlt, by rw [HS.out]; exact HZ.out⟩
          case measure => simp [intOf]; omega
        · obtain rfl : k = D.files.length := by omega
          rw [List.take_length] at HO
          obtain ⟨⟨c0, c1, c2, c3, c4, c5⟩, _, _⟩ := q6_cells HO.out (H := w.heap.size + 1 + 1) (a := .string D.name) (b := .string D.ver) (c := .slice va D.needs.length vc) (d := .slice P.ac D.confs.length P.cc) (e := .slice ua D.files.length uc) (f := .slice P.au D.units.length P.cu) (by simp)
          obtain ⟨⟨q0, q1, q2, q3, q4, q5⟩, ⟨f0, f1, f2, f3, f4, f5⟩, _⟩ := q6_cells HO.out (H := w.heap.size + 1) (a := .string ⟨#[]⟩) (b := .string ⟨#[]⟩) (c := .slice none 0 0) (d := .slice none 0 0) (e := .slice none 0 0) (f := .slice none 0 0) (by simp)
          go_wp2_with fail
          rw [← set6]
          have h5 : Own w _ _ := q6_set (A := [⟨55, 3, .slice ua D.files.length uc, D.files.length, (D.files.map FileD.cells).flatten⟩, rowQ (w.heap.size + 1 + 1) [.string D.name, .string D.ver, .slice va D.needs.length vc, .slice P.ac D.confs.length P.cc, .slice ua D.files.length uc, .slice P.au D.units.length P.cu], ⟨54, 3, .slice va D.needs.length vc, D.needs.length, (D.needs.map NeedD.cells).flatten⟩]) (B := [rowPk w.heap.size D P]) HO.out rfl [.string D.name, .string D.ver, .slice va D.needs.length vc, .slice P.ac D.confs.length P.cc, .slice ua D.files.length uc, .slice P.au D.units.length P.cu] rfl
          obtain ⟨_, _, k5⟩ := q6_cells h5 (List.mem_cons_self ..)
          obtain ⟨hs1, hs2⟩ := rowE_at (T := 54) (size := 3) (cells := NeedD.cells) (a := va) (c := vc) (ns := D.needs) h5 (by simp) (fun x => rfl)
          obtain ⟨ht1, ht2⟩ := rowE_at (T := 55) (size := 3) (cells := FileD.cells) (a := ua) (c := uc) (ns := D.files) h5 (by simp) (fun x => rfl)
          refine bodyPost_ret (v := .agg [Value.string D.name, .string D.ver, .slice va D.needs.length vc, .slice P.ac D.confs.length P.cc, .slice ua D.files.length uc, .slice P.au D.units.length P.cu].toArray) (ret_cellV Tryz.results8 rfl k5 Tryz.underlying32 rfl hir) rfl ?_
          exact ⟨⟨va, vc, P.ac, P.cc, ua, uc, P.au, P.cu⟩, rfl, ⟨hs1, HD.out.confs.later h5.below, ht1, HD.out.units.later h5.below, fun f hf => (HD.out.data f hf).later h5.below, ht2⟩, h5.below⟩
end Go.Proofs.YtihnjhigemhknaaGreatDoor
end

/- The reference of package path: 'Split'. -/
section
namespace Go.Proofs.YtihnjhigemhknaaGreatDoor
open Go.RowKit
set_option linter.unusedVariables false
set_option linter.unusedSimpArgs false

theorem info_ss : (Tryz.prog.info? 9).map (fun i => (i.zero, i.size, i.bytes)) = some (some (.string ⟨#[]⟩), 1, 16) := by kernel_rfl
theorem okP_back {l : List UInt8} (h1 : l ≠ [47]) (h2 : 1 ≤ l.length) (h3 : l.length ≤ 40) (h4 : l.head? = some 47) : okP l = (decide ((partsL (l.drop 1)).length ≤ 5) && (partsL (l.drop 1)).all nameL) ∧ namesL l = (if okP l then partsL (l.drop 1) else []) := by
  refine ⟨?_, ?_⟩
  · unfold okP; rw [decide_eq_false h1, decide_eq_true h3, decide_eq_true h4, List.drop_one]; simp
  · unfold namesL; rw [if_neg h1, List.drop_one]
theorem okP_head {l : List UInt8} (h1 : l ≠ [47]) (h : l.length < 1 ∨ 40 < l.length ∨ l.head? ≠ some 47) : okP l = false := by
  unfold okP
  rw [decide_eq_false h1]
  rcases h with h | h | h
  · have : l = [] := List.length_eq_zero_iff.1 (by omega)
    subst this; simp
  · rw [decide_eq_false (show ¬ l.length ≤ 40 by omega)]; simp
  · rw [decide_eq_false h]; simp
theorem head_at (s : ByteArray) (h : 0 < s.size) : s.data.toList.head? = some s[0] := by
  have h2 : 0 < s.data.toList.length := by rw [← Lib.size_eq]; exact h
  rw [List.head?_eq_getElem?, List.getElem?_eq_getElem h2]; rfl
theorem byte_int (c : UInt8) : ((c.toNat : Int) == 47) = decide (c = 47) := by
  rw [Bool.eq_iff_iff, beq_iff_eq, decide_eq_true_iff]
  constructor
  · intro h; apply UInt8.toNat_inj.1; show c.toNat = 47; omega
  · rintro rfl; rfl
/-- One value as what is appended. -/
theorem src_one (w : World) (u : Value) (T : TypeId) (h : u.oneCell' = true) : Src (w.alloc (.cells #[u] T)) (.slice (some ⟨w.heap.size, 0, none⟩) 1 1) 1 [u] := by
  refine .inr ⟨_, _, rfl, fun j x hj => ?_, fun x hx => by rw [List.mem_singleton.1 hx]; exact h⟩
  rw [Addr.add_mid, Nat.zero_add, World.cell?_alloc_new]
  simpa using hj
theorem rowS_push {W0 : Base} {w : World} {v : Value} {done : List (List UInt8)} {x : ByteArray} {p : List UInt8} {L : List Rw} (h : Own W0 w (⟨9, 1, v, done.length + 1, strs done ++ [.string x]⟩ :: L)) (hx : x = toB p) : Own W0 w (rowSs v (done ++ [p]) :: L) := by
  subst hx
  have e : (⟨9, 1, v, done.length + 1, strs done ++ [.string (toB p)]⟩ : Rw) = rowSs v (done ++ [p]) := by
    simp [rowSs, strs]
  rw [← e]; exact h
set_option maxRecDepth 100000 in
set_option maxHeartbeats 4000000 in
theorem refsplit_any (s : ByteArray) (w : World) (hs : s.size ≤ maxLen) : Calls Tryz.prog 30 #[.string s] w (SplitPost w s.data.toList) := by
  unfold maxLen at hs
  have hz : s.data.toList.length = s.size := (Lib.size_eq s).symm
  by_cases h1 : s.toList = [47]
  · have h1' : (s.toList == [47]) = true := beq_iff_eq.2 h1
    have hl : s.data.toList = [47] := by rw [← Lib.toList_data]; exact h1
    have HP := Lib.hid (show SplitPost w s.data.toList (.returned (.tuple #[.slice none 0 0, .bool true])) w from by
      rw [hl]; exact ⟨_, rfl, (Own.start w).nil _ _⟩)
    clear hl hz
    go_enter Tryz.func30, Tryz.ntmps30
    go_wp2
    go_ret2
    exact HP.out
  have h1' : (s.toList == [47]) = false := beq_eq_false_iff_ne.2 h1
  have h1l : s.data.toList ≠ [47] := by rw [← Lib.toList_data]; exact h1
  by_cases h2 : 1 ≤ s.size
  · by_cases h3 : s.size ≤ 40
    · have hh := head_at s h2
      have hb := byte_int s[0]
      by_cases h4 : s[0] = 47
      · rw [decide_eq_true h4] at hb
        have hbn : ((s[0].toNat : Int) != 47) = false := by rw [bne, hb]; rfl
        obtain ⟨h5, h6⟩ := okP_back h1l (by omega) (by omega) (by rw [hh, h4])
        have H5 := Lib.hid h5
        have H6 := Lib.hid h6
        have HC := Lib.hid (Cut.start s.data.toList (by omega))
        have HZ := Lib.hid hz
        clear h5 h6 hh h1l hz h4 h1
        obtain ⟨i0, hi, hz0, hz1, hz2⟩ := info_parts info_ss
        go_enter Tryz.func30, Tryz.ntmps30
        go_wp2
        clear hb hbn h1'
        go_loopw [4, 5, 6] (fun v fr i wr => ∃ (done : List (List UInt8)) (f k : Nat), k ≤ s.size + 1 ∧ f ≤ k ∧ fr = .int .i64 f ∧ i = .int .i64 k ∧ Own w wr [rowSs v done] ∧ Hid (Cut s.data.toList done f k)) (fun _ _ i _ => s.size + 1 - (intOf i).toNat)
        case atStart => exact ⟨[], 1, 1, by omega, Nat.le_refl _, rfl, rfl, (Own.start w).made 9 1 #[] 0 rfl (by unfold maxLen; omega), HC⟩
        case round =>
          obtain ⟨done, f, k, hk, hfk, rfl, rfl, hO, HC2⟩ := hrel
          have hfew := HC2.out.few (by rw [HZ.out]; exact h3)
          by_cases hlt : k ≤ s.size
          · have HE := Lib.hid (show s.extract f k = toB ((s.data.toList.drop f).take (k - f)) by apply ByteArray.ext; rw [← Array.toList_inj, Lib.extract_data])
            by_cases hend : k = s.size
            · have HC3 := Lib.hid (HC2.out.stop (by rw [HZ.out]; exact hend))
              have e1 : ((k : Int) == (s.size : Int)) = true := by rw [beq_iff_eq]; omega
              have e2 : (k == s.size) = true := by simpa using hend
              clear hend
              obtain ⟨aq, cq, rfl, _, _⟩ := hO.sized
              have HO := Lib.hid (show Own w (wr.alloc (.cells #[.string (s.extract f k)] 9)) [rowSs (.slice aq done.length cq) done] from hO.alloc _)
              have Hsrc := Lib.hid (src_one wr (.string (s.extract f k)) 9 rfl)
              clear hO HC2 HC
              go_wp2_with (at_builtin; refine wpList_append_src rfl (.tmp 40) (.tmp 45) 23 rfl (.slice aq done.length cq) done.length (strs done) (.slice (some ⟨wr.heap.size, 0, none⟩) 1 1) 1 [.string (s.extract f k)] rfl rfl HO.out i0 (.string ⟨#[]⟩) 16 Tryz.underlying23 hi hz0 hz1 hz2 rfl (by decide) Hsrc.out rfl (by unfold maxLen; omega) (by omega) ?_)
              intro v2 w2 hO2
              have HO2 := Lib.hid (show Own w w2 [rowSs v2 (done ++ [(s.data.toList.drop f).take (k - f)])] from rowS_push hO2 HE.out)
              clear hO2
              go_wp2_with fail
              exact ⟨⟨_, k + 1, k + 1, by omega, Nat.le_refl _, by go_num, by go_num, HO2.out, HC3⟩, by simp [intOf]; omega⟩
            · have hk2 : k < s.size := by omega
              have e1 : ((k : Int) == (s.size : Int)) = false := by rw [beq_eq_false_iff_ne]; omega
              have e2 : (k == s.size) = false := by simpa using hend
              have e3 : (k : Int) < (s.size : Int) := by omega
              have hb := byte_int s[k]
              have hkl : k < s.data.toList.length := by rw [HZ.out]; exact hk2
              have hsk : s.data.toList[k] = s[k] := rfl
              by_cases h4 : s[k] = 47
              · rw [decide_eq_true h4] at hb
                have HC3 := Lib.hid (HC2.out.slash hkl (by rw [hsk]; exact h4))
                clear hend hsk hkl h4
                obtain ⟨aq, cq, rfl, _, _⟩ := hO.sized
                have HO := Lib.hid (show Own w (wr.alloc (.cells #[.string (s.extract f k)] 9)) [rowSs (.slice aq done.length cq) done] from hO.alloc _)
                have Hsrc := Lib.hid (src_one wr (.string (s.extract f k)) 9 rfl)
                clear hO HC2 HC
                go_wp2_with (at_builtin; refine wpList_append_src rfl (.tmp 40) (.tmp 45) 23 rfl (.slice aq done.length cq) done.length (strs done) (.slice (some ⟨wr.heap.size, 0, none⟩) 1 1) 1 [.string (s.extract f k)] rfl rfl HO.out i0 (.string ⟨#[]⟩) 16 Tryz.underlying23 hi hz0 hz1 hz2 rfl (by decide) Hsrc.out rfl (by unfold maxLen; omega) (by omega) ?_)
                intro v2 w2 hO2
                have HO2 := Lib.hid (show Own w w2 [rowSs v2 (done ++ [(s.data.toList.drop f).take (k - f)])] from rowS_push hO2 HE.out)
                clear hO2
                go_wp2_with fail
                exact ⟨⟨_, k + 1, k + 1, by omega, Nat.le_refl _, by go_num, by go_num, HO2.out, HC3⟩, by simp [intOf]; omega⟩
              · rw [decide_eq_false h4] at hb
                have HC3 := Lib.hid (HC2.out.on hkl (by rw [hsk]; exact h4))
                have hbi : ¬ (s[k].toNat : Int) = 47 := by simpa using hb
                clear hend hsk h4
                go_wp2_with fail
                go_roundw
                case rel => exact ⟨done, f, k + 1, by omega, by omega, rfl, by go_num, hO, HC3⟩
                case measure => simp [intOf]; omega
          · have hls := HC2.out.ended (by rw [HZ.out]; omega)
            rw [hls] at H5 H6
            have HL := Lib.hid (show ∀ p ∈ done, p.length ≤ 40 from fun p hp => by
              rw [← hls] at hp
              have := parts_le _ p hp
              rw [List.length_drop, HZ.out] at this; omega)
            have hpos : 0 < done.length := by rw [← hls]; exact (partsL_length _).1
            clear HC2 HC hls
            have hk1 : ¬ (k : Int) ≤ (s.size : Int) := by omega
            obtain ⟨g, cq, rfl, hg1, hg2, hc1, hc2⟩ := hO.form hpos
            have HO := Lib.hid hO
            have hbelow := hO.below
            clear hO
            go_wp2_with fail
            go_loop [7] (fun i => ∃ j : Nat, j ≤ done.length ∧ i = .int .i64 j ∧ Hid ((done.take j).all nameL = true)) (fun i => done.length - (intOf i).toNat)
            case atStart => exact ⟨0, Nat.zero_le _, rfl, rfl⟩
            case round =>
              obtain ⟨j, hj, rfl, HA⟩ := hrel
              by_cases hjt : j < done.length
              · have hc := HO.out.str j hjt
                have HS := Lib.hid (all_take_succ nameL done j hjt)
                have HF := Lib.hid (all_at_no nameL done j hjt)
                have hl1 := HL.out done[j] (List.getElem_mem _)
                generalize done[j] = l at *
                have HR : Calls Tryz.prog 28 #[.string (toB l)] wr fun e w' => e = .returned (.bool (nameL l)) ∧ wr = w' := refname_any (toB l) wr (by rw [toB_size]; unfold maxLen; omega)
                by_cases hn : nameL l = true
                · go_wp2_with (go_at_call 28; refine HR.mono ?_; rintro e w' ⟨rfl, rfl⟩)
                  go_round
                  case rel => exact ⟨j + 1, by omega, by go_num, by show (done.take (j + 1)).all nameL = true; rw [HS.out, HA.out, hn]; rfl⟩
                  case measure => simp [intOf]; omega
                · have hn' : nameL l = false := by simpa using hn
                  have HN := Lib.hid (show okP s.data.toList = false by rw [H5.out, HF.out hn']; simp)
                  clear hn
                  go_wp2_with (go_at_call 28; refine HR.mono ?_; rintro e w' ⟨rfl, rfl⟩)
                  go_ret2
                  exact splitPost_no HN.out hbelow
              · have HT := Lib.hid (show done.all nameL = true by have := HA.out; rwa [List.take_of_length_le (by omega)] at this)
                by_cases h6 : done.length ≤ 5
                · have HE := Lib.hid (show okP s.data.toList = true by rw [H5.out, HT.out, decide_eq_true h6]; rfl)
                  have HG := Lib.hid (show SplitPost w s.data.toList (.returned (.tuple #[.slice (some ⟨g, 0, none⟩) done.length cq, .bool true])) wr from ⟨_, by rw [HE.out], by rw [H6.out, HE.out]; exact HO.out⟩)
                  clear HA HO HL H5 H6
                  go_wp2
                  go_ret2
                  exact HG.out
                · have HN := Lib.hid (show okP s.data.toList = false by rw [H5.out, decide_eq_false h6]; rfl)
                  clear HA HO HL H5 H6
                  go_wp2
                  go_ret2
                  exact splitPost_no HN.out hbelow
      · rw [decide_eq_false h4] at hb
        have hbn : ((s[0].toNat : Int) != 47) = true := by rw [bne, hb]; rfl
        have HN := Lib.hid (okP_head h1l (.inr (.inr (by rw [hh]; simpa using h4))))
        have hb2 : ¬ (s[0].toNat : Int) = 47 := by simpa using hb
        clear h1l hz hh h4
        go_enter Tryz.func30, Tryz.ntmps30
        go_wp2
        go_ret2
        exact splitPost_no HN.out (Below.refl _ _)
    · have HN := Lib.hid (okP_head h1l (.inr (.inl (by omega))))
      clear h1l hz
      go_enter Tryz.func30, Tryz.ntmps30
      go_wp2
      go_ret2
      exact splitPost_no HN.out (Below.refl _ _)
  · have HN := Lib.hid (okP_head h1l (.inl (by omega)))
    clear h1l hz
    go_enter Tryz.func30, Tryz.ntmps30
    go_wp2
    go_ret2
    exact splitPost_no HN.out (Below.refl _ _)
end Go.Proofs.YtihnjhigemhknaaGreatDoor
end

/- Whether a package may be, as the document asks it: the walk. -/
section
namespace Go.Proofs.YtihnjhigemhknaaGreatDoor
open Go.RowKit
set_option linter.unusedVariables false
set_option linter.unusedSimpArgs false
set_option maxRecDepth 100000

theorem slash_list (l : List UInt8) : (toB l ++ ⟨#[47]⟩ : ByteArray) = toB (l ++ [47]) := by apply ByteArray.ext; simp
theorem slash_toB (s : ByteArray) : (s ++ ⟨#[47]⟩ : ByteArray).data.toList = s.data.toList ++ [47] := by
  have e : (s ++ ⟨#[47]⟩ : ByteArray) = toB (s.data.toList ++ [47]) := slash_list s.data.toList
  rw [e]
theorem slash_size (s : ByteArray) : (s ++ ⟨#[47]⟩ : ByteArray).size = s.size + 1 := by
  have e : (s ++ ⟨#[47]⟩ : ByteArray) = toB (s.data.toList ++ [47]) := slash_list s.data.toList
  rw [e, toB_size, List.length_append]
  rfl
theorem var_str (x : List UInt8) : (x == [118, 97, 114]) = decide (x = varS) := by
  rw [Bool.eq_iff_iff, decide_eq_true_iff, beq_iff_eq]
  exact Iff.rfl
theorem any_false {α : Type} {xs : List α} {f : α → Bool} (h : ∀ k (hk : k < xs.length) (h2 : k < xs.length), f xs[k] = true) : (xs.any fun x => !f x) = false := by
  rw [List.any_eq_false]
  intro x hx
  obtain ⟨k, hk, rfl⟩ := List.getElem_of_mem hx
  rw [h k hk hk]; decide
theorem any_true {α : Type} {xs : List α} {f : α → Bool} (k : Nat) (hk : k < xs.length) (h : f xs[k] = false) : (xs.any fun x => !f x) = true :=
  List.any_eq_true.2 ⟨xs[k], List.getElem_mem hk, by rw [h]; rfl⟩
/-- What is asked, taken apart. -/
structure Asks (D : PkgD) (Q : Bool) : Prop where
  head : (nameL D.name.data.toList && rightV D.ver.data.toList) = false → Q = false
  few : fewOk D = false → Q = false
  need : ∀ k (h : k < D.needs.length), needOk D.needs[k] = false → Q = false
  conf : ∀ k (h : k < D.confs.length), confOk D.name D.confs[k] = false → Q = false
  unit : ∀ k (h : k < D.units.length), unitOk D.units[k] = false → Q = false
  file : ∀ k (h : k < D.files.length), refAt D.files k = false → Q = false
  all : (nameL D.name.data.toList && rightV D.ver.data.toList) = true → fewOk D = true → (∀ k (h : k < D.needs.length) (h2 : k < D.needs.length), needOk D.needs[k] = true) → (∀ k (h : k < D.confs.length) (h2 : k < D.confs.length), confOk D.name D.confs[k] = true) → (∀ k (h : k < D.units.length) (h2 : k < D.units.length), unitOk D.units[k] = true) → (∀ k (h : k < D.files.length), refAt D.files k = true) → Q = true
theorem asks (D : PkgD) : Asks D (pkOk D) := by
  unfold pkOk
  refine ⟨fun h => ?_, fun h => ?_, fun k hk h => ?_, fun k hk h => ?_, fun k hk h => ?_, fun k hk h => ?_, fun h1 h2 h3 h4 h5 h6 => ?_⟩
  · rw [h]; rfl
  · rw [h, Bool.and_false, Bool.false_and]
  · rw [any_true k hk h]; simp
  · rw [any_true (f := fun s => confOk D.name s) k hk h]; simp
  · rw [any_true k hk h]; simp
  · rw [filesOk_bad _ k hk h]; simp
  · rw [h1, h2, any_false h3, any_false (f := fun s => confOk D.name s) h4, any_false h5, files_ref, List.all_eq_true.2 fun k hk => h6 k (List.mem_range.1 hk)]
    rfl
theorem need_parts (n : NeedD) : (nameL n.name.data.toList = false → needOk n = false) ∧ (n.way < 0 → needOk n = false) ∧ (3 < n.way → needOk n = false) ∧ (n.way = 0 → n.ver.data.toList ≠ [] → needOk n = false) ∧ (nameL n.name.data.toList = true → n.way = 0 → n.ver.data.toList = [] → needOk n = true) ∧ (0 < n.way → n.way ≤ 3 → nameL n.name.data.toList = true → needOk n = rightV n.ver.data.toList) := by
  unfold needOk
  refine ⟨fun h => ?_, fun h => ?_, fun h => ?_, fun h h2 => ?_, fun h h2 h3 => ?_, fun h h2 h3 => ?_⟩
  · rw [h, Bool.false_and]
  · rw [wayOk_no (by omega) (by omega), Bool.and_false]
  · rw [wayOk_no (by omega) (by omega), Bool.and_false]
  · rw [wayOk_zero h, decide_eq_false h2, Bool.and_false]
  · rw [h, wayOk_zero h2, decide_eq_true h3]; rfl
  · rw [h3, wayOk_ver (by omega), Bool.true_and]
theorem below_at {p : Nat → Prop} {n k : Nat} (h : ∀ i (hi : i < k) (h2 : i < n), p i) (hx : p k) : ∀ i (hi : i < k + 1) (h2 : i < n), p i := fun i hi h2 => by
  rcases Nat.lt_succ_iff_lt_or_eq.1 hi with h3 | h3
  · exact h i h3 h2
  · subst h3; exact hx
set_option maxHeartbeats 32000000 in
theorem refright_any (D : PkgD) (P : PkL) (w : World) (hD : PkAt w D P) (hf : Fits D) (hv : D.ver.size ≤ 100000) (hv2 : ∀ n ∈ D.needs, n.ver.size ≤ 100000) :
    Calls Tryz.prog 11 #[.agg #[.string D.name, .string D.ver, .slice P.an D.needs.length P.cn, .slice P.ac D.confs.length P.cc, .slice P.af D.files.length P.cf, .slice P.au D.units.length P.cu]] w fun e w' => e = .returned (.bool (pkOk D)) ∧ Below w.heap.size w w' := by
  have HX := Lib.hid (show Own w _ [rowQ w.heap.size (pkCells D P)] from (Own.start w).box6 (.string D.name) (.string D.ver) (.slice P.an D.needs.length P.cn) (.slice P.ac D.confs.length P.cc) (.slice P.af D.files.length P.cf) (.slice P.au D.units.length P.cu) 32)
  have HQ := Lib.hid (asks D)
  obtain ⟨Q, hQ⟩ : ∃ Q, pkOk D = Q := ⟨_, rfl⟩
  rw [hQ] at HQ ⊢
  clear hQ
  have HD := Lib.hid hD
  have HF := Lib.hid hf
  have HV := Lib.hid hv2
  have HN := fun w1 => refname_any D.name w1 (by have := hf.name; unfold maxLen; omega)
  have HVr := fun w1 => refversion_any D.ver w1 hv
  have r2 := hf.needs
  have r3 := hf.confs
  have r4 := hf.files
  have r5 := hf.units
  have HFew := Lib.hid (show fewOk D = (decide (D.needs.length ≤ 8) && decide (D.confs.length ≤ 8) && decide (D.files.length ≤ 12) && decide (D.units.length ≤ 4)) from rfl)
  clear hD hf hv hv2
  obtain ⟨b1, hb1⟩ : ∃ q, nameL D.name.data.toList = q := ⟨_, rfl⟩
  obtain ⟨b2, hb2⟩ : ∃ q, rightV D.ver.data.toList = q := ⟨_, rfl⟩
  have HH := Lib.hid HQ.out.head
  have HAll := Lib.hid HQ.out.all
  rw [hb1, hb2] at HH HAll
  simp only [hb1] at HN
  simp only [hb2] at HVr
  clear hb1 hb2
  go_enter Tryz.func11, Tryz.ntmps11
  go_wp2_with fail
  refine (HN _).mono ?_
  rintro e w2 ⟨rfl, rfl⟩
  clear HN
  cases b1 with
  | false =>
    obtain rfl : Q = false := HH.out rfl
    go_wp2_with fail
    go_ret
    exact ⟨rfl, HX.out.below⟩
  | true =>
    go_wp2_with fail
    refine (HVr _).mono ?_
    rintro e w3 ⟨rfl, hb3⟩
    have HX3 := Lib.hid (HX.out.later hb3)
    obtain ⟨⟨p0, p1, p2, p3, p4, p5⟩, _, _⟩ := q6_cells HX3.out (H := w.heap.size) (a := .string D.name) (b := .string D.ver) (c := .slice P.an D.needs.length P.cn) (d := .slice P.ac D.confs.length P.cc) (e := .slice P.af D.files.length P.cf) (f := .slice P.au D.units.length P.cu) (List.mem_cons_self ..)
    clear hb3 HVr HX
    cases b2 with
    | false =>
      obtain rfl : Q = false := HH.out rfl
      go_wp2_with fail
      go_ret
      exact ⟨rfl, HX3.out.below⟩
    | true =>
      clear HH
      by_cases hall : D.needs.length ≤ 8 ∧ D.confs.length ≤ 8 ∧ D.files.length ≤ 12 ∧ D.units.length ≤ 4
      · have HA2 := Lib.hid (HAll.out rfl (by rw [HFew.out, decide_eq_true hall.1, decide_eq_true hall.2.1, decide_eq_true hall.2.2.1, decide_eq_true hall.2.2.2]; rfl))
        have i0 : ¬ (8 : Int) < (D.needs.length : Int) := by omega
        have i1 : ¬ (8 : Int) < (D.confs.length : Int) := by omega
        have i2 : ¬ (12 : Int) < (D.files.length : Int) := by omega
        have i3 : ¬ (4 : Int) < (D.units.length : Int) := by omega
        clear hall HFew HAll
        go_wp2_with fail
        clear p0 p1 p2 p3 p4 p5 i0 i1 i2 i3
        go_loopw [3] (fun iv wr => ∃ k : Nat, iv = .int .i64 k ∧ k ≤ D.needs.length ∧ Own w wr [rowQ w.heap.size (pkCells D P)] ∧ Hid (∀ i (hi : i < k) (h2 : i < D.needs.length), needOk D.needs[i] = true)) (fun iv _ => D.needs.length - (intOf iv).toNat)
        case atStart => exact ⟨0, rfl, Nat.zero_le _, HX3.out, fun i hi => absurd hi (Nat.not_lt_zero _)⟩
        case round =>
          clear HX3
          obtain ⟨k, rfl, hk, hO, HG⟩ := hrel
          have HO := Lib.hid hO
          clear hO
          obtain ⟨⟨p0, p1, p2, p3, p4, p5⟩, _, _⟩ := q6_cells HO.out (H := w.heap.size) (a := .string D.name) (b := .string D.ver) (c := .slice P.an D.needs.length P.cn) (d := .slice P.ac D.confs.length P.cc) (e := .slice P.af D.files.length P.cf) (f := .slice P.au D.units.length P.cu) (List.mem_cons_self ..)
          clear p0 p1 p4 p5
          by_cases hlt : k < D.needs.length
          · obtain ⟨g, o, hg, hr⟩ := HD.out.needs.later HO.out.below k (by rw [List.length_map]; exact hlt)
            rw [List.getElem_map] at hr
            have q0 := hr 0 _ rfl
            have q1 := hr 1 _ rfl
            have q2 := hr 2 _ rfl
            rw [Nat.add_zero] at q0
            have hm := HF.out.need _ (List.getElem_mem hlt)
            have hm3 := HV.out _ (List.getElem_mem hlt)
            have HG2 := Lib.hid (fun h => below_mem (p := fun n : NeedD => needOk n = true) hlt HG.out h)
            have HB := Lib.hid (HQ.out.need k hlt)
            clear hr HG p3
            generalize D.needs[k] = n at *
            obtain ⟨hm1, hm2⟩ := hm
            have HNn := fun w1 => refname_any n.name w1 (by unfold maxLen; omega)
            have HVn := fun w1 => refversion_any n.ver w1 hm3
            have hE := empty_is n.ver
            obtain ⟨z1, z2, z3, z4, z5, z6⟩ := need_parts n
            obtain ⟨c1, hc1⟩ : ∃ q, nameL n.name.data.toList = q := ⟨_, rfl⟩
            obtain ⟨c2, hc2⟩ : ∃ q, rightV n.ver.data.toList = q := ⟨_, rfl⟩
            obtain ⟨c3, hc3⟩ : ∃ q, decide (n.ver.data.toList = []) = q := ⟨_, rfl⟩
            rw [hc1] at z1 z5 z6
            rw [hc2] at z6
            rw [hc3] at hE
            simp only [hc1] at HNn
            simp only [hc2] at HVn
            have Z1 := Lib.hid z1
            have Z2 := Lib.hid z2
            have Z3 := Lib.hid z3
            have Z4 := Lib.hid (show n.way = 0 → c3 = false → needOk n = false from fun h h2 => z4 h (by rw [h2] at hc3; exact of_decide_eq_false hc3))
            have Z5 := Lib.hid (show c1 = true → n.way = 0 → c3 = true → needOk n = true from fun h h2 h3 => z5 h h2 (by rw [h3] at hc3; exact of_decide_eq_true hc3))
            have Z6 := Lib.hid z6
            clear z1 z2 z3 z4 z5 z6 hc1 hc2 hc3 hm1 hm2 hm3
            rw [hg] at p2
            clear hg
            have HOa := Lib.hid (HO.out.alloc (.cells #[.string n.name, .int .i64 n.way, .string n.ver] 54))
            have hszw := HO.out.size
            cases c1 with
            | false =>
              obtain rfl : Q = false := HB.out (Z1.out rfl)
              go_wp2_with fail
              refine (HNn _).mono ?_
              rintro e w4 ⟨rfl, rfl⟩
              go_wp2_with fail
              go_ret
              exact ⟨rfl, HOa.out.below⟩
            | true =>
              by_cases y0 : n.way < 0
              · obtain rfl : Q = false := HB.out (Z2.out y0)
                go_wp2_with fail
                refine (HNn _).mono ?_
                rintro e w4 ⟨rfl, rfl⟩
                go_wp2_with fail
                go_ret
                exact ⟨rfl, HOa.out.below⟩
              · by_cases y1 : 3 < n.way
                · obtain rfl : Q = false := HB.out (Z3.out y1)
                  go_wp2_with fail
                  refine (HNn _).mono ?_
                  rintro e w4 ⟨rfl, rfl⟩
                  go_wp2_with fail
                  go_ret
                  exact ⟨rfl, HOa.out.below⟩
                · by_cases y2 : n.way = 0
                  · cases c3 with
                    | false =>
                      obtain rfl : Q = false := HB.out (Z4.out y2 rfl)
                      have y3 : (n.way == 0) = true := by rw [y2]; rfl
                      clear y2
                      go_wp2_with fail
                      refine (HNn _).mono ?_
                      rintro e w4 ⟨rfl, rfl⟩
                      go_wp2_with fail
                      go_ret
                      exact ⟨rfl, HOa.out.below⟩
                    | true =>
                      have HG3 := Lib.hid (HG2.out (Z5.out rfl y2 rfl))
                      have y3 : (n.way == 0) = true := by rw [y2]; rfl
                      have y4 : ¬ 0 < n.way := by omega
                      clear y2 HG2
                      go_wp2_with fail
                      refine (HNn _).mono ?_
                      rintro e w4 ⟨rfl, rfl⟩
                      go_wp2_with fail
                      go_roundw
                      case rel => exact ⟨k + 1, by go_num, hlt, HOa.out, HG3.out⟩
                      case measure => simp [intOf]; omega
                  · have y3 : (n.way == 0) = false := by simpa using y2
                    have y4 : 0 < n.way := by omega
                    have HZ := Lib.hid (Z6.out y4 (by omega) rfl)
                    clear y2 hE
                    go_wp2_with fail
                    refine (HNn _).mono ?_
                    rintro e w4 ⟨rfl, rfl⟩
                    go_wp2_with fail
                    refine (HVn _).mono ?_
                    rintro e w5 ⟨rfl, hb5⟩
                    have HO5 := Lib.hid (HOa.out.later hb5)
                    clear hb5
                    cases c2 with
                    | false =>
                      obtain rfl : Q = false := HB.out HZ.out
                      go_wp2_with fail
                      go_ret
                      exact ⟨rfl, HO5.out.below⟩
                    | true =>
                      have HG3 := Lib.hid (HG2.out HZ.out)
                      clear HG2
                      go_wp2_with fail
                      go_roundw
                      case rel => exact ⟨k + 1, by go_num, hlt, HO5.out, HG3.out⟩
                      case measure => simp [intOf]; omega
          · obtain rfl : k = D.needs.length := by omega
            have HNs := Lib.hid HG.out
            clear HG
            go_wp2_with fail
            clear p2 p3
            go_loopw [5] (fun iv wq => ∃ k : Nat, iv = .int .i64 k ∧ k ≤ D.confs.length ∧ Own w wq [rowQ w.heap.size (pkCells D P)] ∧ Hid (∀ i (hi : i < k) (h2 : i < D.confs.length), confOk D.name D.confs[i] = true)) (fun iv _ => D.confs.length - (intOf iv).toNat)
            case atStart => exact ⟨0, rfl, Nat.zero_le _, HO.out, fun i hi => absurd hi (Nat.not_lt_zero _)⟩
            case round =>
              clear HO
              obtain ⟨k, rfl, hk, hO, HG⟩ := hrel
              have HO := Lib.hid hO
              clear hO
              obtain ⟨⟨p0, p1, p2, p3, p4, p5⟩, _, _⟩ := q6_cells HO.out (H := w.heap.size) (a := .string D.name) (b := .string D.ver) (c := .slice P.an D.needs.length P.cn) (d := .slice P.ac D.confs.length P.cc) (e := .slice P.af D.files.length P.cf) (f := .slice P.au D.units.length P.cu) (List.mem_cons_self ..)
              clear p1 p2 p4
              by_cases hlt : k < D.confs.length
              · obtain ⟨g, o, hg, hr⟩ := HD.out.confs.later HO.out.below k (by rw [List.length_map]; exact hlt)
                rw [List.getElem_map] at hr
                rw [Nat.mul_one] at hr
                have q0 := hr 0 _ rfl
                rw [Nat.add_zero] at q0
                have hm1 := HF.out.conf _ (List.getElem_mem hlt)
                have HG2 := Lib.hid (fun h => below_mem (p := fun n : ByteArray => confOk D.name n = true) hlt HG.out h)
                have HB := Lib.hid (HQ.out.conf k hlt)
                clear hr HG p5
                generalize D.confs[k] = n at *
                rw [hg] at p3
                clear hg
                have HNn := fun w1 => (refname_any n w1 (by unfold maxLen; omega)).mono fun e w' (h : e = .returned (.bool (nameL n.data.toList)) ∧ w1 = w') => (⟨h.1, h.2.symm⟩ : e = .returned (.bool (nameL n.data.toList)) ∧ w' = w1)
                have hE := eqS_lists (a := n) (b := D.name)
                have HC := Lib.hid (show confOk D.name n = (nameL n.data.toList && !decide (n.data.toList = D.name.data.toList)) from rfl)
                obtain ⟨c1, hc1⟩ : ∃ q, nameL n.data.toList = q := ⟨_, rfl⟩
                obtain ⟨c2, hc2⟩ : ∃ q, decide (n.data.toList = D.name.data.toList) = q := ⟨_, rfl⟩
                rw [hc1, hc2] at HC
                rw [hc2] at hE
                simp only [hc1] at HNn
                clear hc1 hc2
                have s0 : wr.cell? ⟨w.heap.size, 3, none⟩ = some (.slice (some ⟨g, o, none⟩) D.confs.length P.cc) ∧ wr.cell? ⟨w.heap.size, 0, none⟩ = some (.string D.name) ∧ wr.cell? ⟨g, o + k, none⟩ = some (.string n) := ⟨p3, p0, q0⟩
                cases c1 with
                | false =>
                  obtain rfl : Q = false := HB.out HC.out
                  clear hE HG2
                  go_wp2_with fail
                  go_quiet ((go_at_call 28; exact Calls.quiet_of_same (HNn _)))
                  go_wp2_with fail
                  go_ret
                  exact ⟨rfl, (HO.out.later (below_drewN _ _)).below⟩
                | true =>
                  cases c2 with
                  | true =>
                    obtain rfl : Q = false := HB.out HC.out
                    clear HG2
                    go_wp2_with fail
                    go_quiet ((go_at_call 28; exact Calls.quiet_of_same (HNn _)))
                    go_wp2_with fail
                    go_ret
                    exact ⟨rfl, (HO.out.later (below_drewN _ _)).below⟩
                  | false =>
                    have HG3 := Lib.hid (HG2.out HC.out)
                    clear HG2
                    go_wp2_with fail
                    go_quiet ((go_at_call 28; exact Calls.quiet_of_same (HNn _)))
                    go_wp2_with fail
                    go_roundw
                    case rel => exact ⟨k + 1, by go_num, hlt, HO.out.later (below_drewN _ _), HG3.out⟩
                    case measure => simp [intOf]; omega
              · obtain rfl : k = D.confs.length := by omega
                have HCs := Lib.hid HG.out
                clear HG p0
                go_wp2_with fail
                clear p3 p5
                go_loopw [6] (fun iv wq => ∃ k : Nat, iv = .int .i64 k ∧ k ≤ D.units.length ∧ Own w wq [rowQ w.heap.size (pkCells D P)] ∧ Hid (∀ i (hi : i < k) (h2 : i < D.units.length), unitOk D.units[i] = true)) (fun iv _ => D.units.length - (intOf iv).toNat)
                case atStart => exact ⟨0, rfl, Nat.zero_le _, HO.out, fun i hi => absurd hi (Nat.not_lt_zero _)⟩
                case round =>
                  clear HO
                  obtain ⟨k, rfl, hk, hO, HG⟩ := hrel
                  have HO := Lib.hid hO
                  clear hO
                  obtain ⟨⟨p0, p1, p2, p3, p4, p5⟩, _, _⟩ := q6_cells HO.out (H := w.heap.size) (a := .string D.name) (b := .string D.ver) (c := .slice P.an D.needs.length P.cn) (d := .slice P.ac D.confs.length P.cc) (e := .slice P.af D.files.length P.cf) (f := .slice P.au D.units.length P.cu) (List.mem_cons_self ..)
                  clear p0 p1 p2 p3
                  by_cases hlt : k < D.units.length
                  · obtain ⟨g, o, hg, hr⟩ := HD.out.units.later HO.out.below k (by rw [List.length_map]; exact hlt)
                    rw [List.getElem_map] at hr
                    rw [Nat.mul_one] at hr
                    have q0 := hr 0 _ rfl
                    rw [Nat.add_zero] at q0
                    have hm1 := HF.out.unit _ (List.getElem_mem hlt)
                    have HG2 := Lib.hid (fun h => below_mem (p := fun n : ByteArray => unitOk n = true) hlt HG.out h)
                    have HB := Lib.hid (HQ.out.unit k hlt)
                    clear hr HG p4
                    generalize D.units[k] = n at *
                    rw [hg] at p5
                    clear hg
                    by_cases c0 : n.size ≤ 300
                    · have j0 : ¬ (300 : Int) < (n.size : Int) := by omega
                      have HG3 := Lib.hid (HG2.out (by unfold unitOk; exact decide_eq_true c0))
                      clear HG2 c0
                      go_wp2_with fail
                      go_roundw
                      case rel => exact ⟨k + 1, by go_num, hlt, HO.out, HG3.out⟩
                      case measure => simp [intOf]; omega
                    · have j0 : (300 : Int) < (n.size : Int) := by omega
                      obtain rfl : Q = false := HB.out (by unfold unitOk; exact decide_eq_false c0)
                      clear HG2 c0
                      go_wp2_with fail
                      go_ret
                      exact ⟨rfl, HO.out.below⟩
                  · obtain rfl : k = D.units.length := by omega
                    have HUs := Lib.hid HG.out
                    clear HG
                    go_wp2_with fail
                    clear p4 p5
                    go_loopw [7] (fun iv wq => ∃ k : Nat, iv = .int .i64 k ∧ k ≤ D.files.length ∧ (∃ M, Own w wq (M ++ [rowQ w.heap.size (pkCells D P)])) ∧ Hid (∀ i (hi : i < k) (h2 : i < D.files.length), refAt D.files i = true)) (fun iv _ => D.files.length - (intOf iv).toNat)
                    case atStart => exact ⟨0, rfl, Nat.zero_le _, ⟨[], HO.out⟩, fun i hi => absurd hi (Nat.not_lt_zero _)⟩
                    case round =>
                      clear HO
                      obtain ⟨k, rfl, hk, ⟨M, hO⟩, HG⟩ := hrel
                      have HO := Lib.hid hO
                      clear hO
                      obtain ⟨⟨p0, p1, p2, p3, p4, p5⟩, _, _⟩ := q6_cells HO.out (H := w.heap.size) (a := .string D.name) (b := .string D.ver) (c := .slice P.an D.needs.length P.cn) (d := .slice P.ac D.confs.length P.cc) (e := .slice P.af D.files.length P.cf) (f := .slice P.au D.units.length P.cu) (List.mem_append_right _ (List.mem_cons_self ..))
                      clear p0 p1 p2 p3 p5
                      by_cases hlt : k < D.files.length
                      · obtain ⟨g, o, hg, hr⟩ := HD.out.files.later HO.out.below k (by rw [List.length_map]; exact hlt)
                        rw [List.getElem_map] at hr
                        have q0 := hr 0 _ rfl
                        have q1 := hr 1 _ rfl
                        have q2 := hr 2 _ rfl
                        rw [Nat.add_zero] at q0
                        have hm := HF.out.file _ (List.getElem_mem hlt)
                        have HB := Lib.hid (HQ.out.file k hlt)
                        have HOK := Lib.hid (fileOk_ref D.files[k])
                        have HAt := Lib.hid (refAt_eq D.files k hlt)
                        have HLate := Lib.hid (fun j hj => refAt_late D.files k j hlt hj)
                        have HGood := Lib.hid (refAt_good D.files k hlt)
                        have HG2 := Lib.hid (fun h => below_at (p := fun i => refAt D.files i = true) HG.out h)
                        have HFs := Lib.hid HD.out.files
                        have HFp := Lib.hid HF.out.file
                        clear hr HG
                        generalize D.files[k] = f at *
                        obtain ⟨hm1, hm2⟩ := hm
                        rw [hg] at p4
                        have hSp := fun w1 => refsplit_any f.path w1 (by unfold maxLen; omega)
                        unfold SplitPost at hSp
                        have HOa := Lib.hid (show Own w (wr.alloc (.cells #[.string f.path, .bool f.config, .slice f.a f.data.length f.c] 55)) (box3 55 wr.heap.size (.string f.path) (.bool f.config) (.slice f.a f.data.length f.c) :: (M ++ [rowQ w.heap.size (pkCells D P)])) from HO.out.box3 (.string f.path) (.bool f.config) (.slice f.a f.data.length f.c) 55)
                        have hszw := HO.out.size
                        obtain ⟨b, hb⟩ : ∃ q, okP f.path.data.toList = q := ⟨_, rfl⟩
                        obtain ⟨N, hN⟩ : ∃ N, namesL f.path.data.toList = N := ⟨_, rfl⟩
                        have HbN := Lib.hid (show b = false → N = [] from fun h => by
                          rw [← hN]
                          unfold namesL
                          rw [hb, h]
                          split <;> rfl)
                        simp only [hb, hN] at hSp
                        rw [hN] at HOK
                        clear hb hN HO hk
                        have Hg := Lib.hid hg
                        clear hg
                        go_wp2_with fail
                        refine (hSp _).mono ?_
                        rintro e w4 ⟨v4, rfl, hO4⟩
                        obtain ⟨a4, c4, rfl, _, _⟩ := Own.sized (h := hO4)
                        have hj := HOa.out.join hO4
                        have HO4 := Lib.hid (show Own w w4 (rowSs (.slice a4 N.length c4) N :: box3 55 wr.heap.size (.string f.path) (.bool f.config) (.slice f.a f.data.length f.c) :: (M ++ [rowQ w.heap.size (pkCells D P)])) from hj)
                        obtain ⟨d0, d1, d2⟩ := box3_cells HO4.out (T := 55) (H := wr.heap.size) (x := .string f.path) (y := .bool f.config) (z := .slice f.a f.data.length f.c) (by simp)
                        clear hO4 hj hSp HOa q0 q1 q2 p4
                        cases b with
                        | false =>
                          obtain rfl : N = [] := HbN.out rfl
                          obtain rfl : Q = false := HB.out (by rw [HAt.out, HOK.out]; rfl)
                          go_wp2_with fail
                          go_ret
                          exact ⟨rfl, HO4.out.below⟩
                        | true =>
                          cases N with
                          | nil =>
                            obtain rfl : Q = false := HB.out (by rw [HAt.out, HOK.out]; rfl)
                            go_wp2_with fail
                            go_ret
                            exact ⟨rfl, HO4.out.below⟩
                          | cons x r =>
                            obtain ⟨g4, c5, he4, _, _, _, _⟩ := Own.form (h := HO4.out) (by simp)
                            injection he4 with he4 _ he5
                            subst he4 he5
                            have t0 : w4.cell? ⟨g4, 0, none⟩ = some (.string (toB x)) := Own.str HO4.out 0 (by simp)
                            have hE := var_str x
                            have hl0 : ((r.length : Int) + 1 == 0) = false := by simpa using (show ¬ ((r.length : Int) + 1 = 0) by omega)
                            rw [List.length_cons] at *
                            by_cases hx : x = varS
                            · obtain rfl : Q = false := HB.out (by rw [HAt.out, HOK.out, hx]; simp)
                              rw [decide_eq_true hx] at hE
                              clear hx
                              go_wp2_with fail
                              go_ret
                              exact ⟨rfl, HO4.out.below⟩
                            · rw [decide_eq_false hx] at hE
                              by_cases h5 : f.data.length ≤ 512
                              · have HOK2 := Lib.hid (show fileOk f = true by
                                  rw [HOK.out, decide_eq_true h5]
                                  have : ¬ (some x = some varS) := fun e => hx (by injection e)
                                  simp [this])
                                have h6 : ¬ (512 : Int) < (f.data.length : Int) := by omega
                                clear hx h5 HOK
                                have HX4 := Lib.hid HO4.out.tail
                                go_wp2_with fail
                                clear hE hl0 t0 h6 d0 d1 d2 HO4
                                obtain ⟨W8, rfl⟩ : ∃ W8 : World, W8 = wr := ⟨_, rfl⟩
                                go_loopw [11] (fun jv wz => ∃ j : Nat, jv = .int .i64 j ∧ j ≤ k ∧ Own w wz (box3 55 W8.heap.size (.string f.path) (.bool f.config) (.slice f.a f.data.length f.c) :: (M ++ [rowQ w.heap.size (pkCells D P)])) ∧ Hid (∀ i (hi : i < j) (h2 : i < D.files.length), refPair f D.files[i] = true)) (fun jv _ => k - (intOf jv).toNat)
                                case atStart => exact ⟨0, rfl, Nat.zero_le _, HX4.out, fun i hi => absurd hi (Nat.not_lt_zero _)⟩
                                case round =>
                                  clear HX4
                                  obtain ⟨j, rfl, hj, hO, HJ⟩ := hrel
                                  have HO := Lib.hid hO
                                  clear hO
                                  by_cases hlj : j < k
                                  · obtain ⟨⟨p0, p1, p2, p3, p4, p5⟩, _, _⟩ := q6_cells HO.out (H := w.heap.size) (a := .string D.name) (b := .string D.ver) (c := .slice P.an D.needs.length P.cn) (d := .slice P.ac D.confs.length P.cc) (e := .slice P.af D.files.length P.cf) (f := .slice P.au D.units.length P.cu) (List.mem_cons_of_mem _ (List.mem_append_right _ (List.mem_cons_self ..)))
                                    obtain ⟨d0, d1, d2⟩ := box3_cells HO.out (T := 55) (H := W8.heap.size) (x := .string f.path) (y := .bool f.config) (z := .slice f.a f.data.length f.c) (List.mem_cons_self ..)
                                    clear p0 p1 p2 p3 p5 d1 d2
                                    rw [Hg.out] at p4
                                    obtain ⟨g', o', hg', hr⟩ := HFs.out.later HO.out.below j (by rw [List.length_map]; omega)
                                    rw [Hg.out] at hg'
                                    injection hg' with hg'
                                    injection hg' with hg1 hg2
                                    subst hg1 hg2
                                    rw [List.getElem_map] at hr
                                    have q0 := hr 0 _ rfl
                                    rw [Nat.add_zero] at q0
                                    have hjl : j < D.files.length := by omega
                                    have hxs := (HFp.out _ (List.getElem_mem hjl)).1
                                    have HLt := Lib.hid (fun h => HB.out (HLate.out j hlj h))
                                    have HJ2 := Lib.hid (fun h => below_mem (p := fun x : FileD => refPair f x = true) hjl HJ.out h)
                                    have hs0 : wr.cell? ⟨w.heap.size, 4, none⟩ = some (.slice (some ⟨g, o, none⟩) D.files.length P.cf) ∧ wr.cell? ⟨W8.heap.size, 0, none⟩ = some (.string f.path) ∧ wr.cell? ⟨g, o + j * 3, none⟩ = some (.string D.files[j].path) := ⟨p4, d0, q0⟩
                                    clear hr HJ
                                    generalize D.files[j] = x at *
                                    have HP := Lib.hid (show refPair f x = (Op.bytesLess x.path.toList f.path.toList && !decide ((x.path.data.toList ++ [47]) <+: f.path.data.toList)) from rfl)
                                    have hbg := fun w1 => (refbegins_any f.path (x.path ++ ⟨#[47]⟩) w1 (by unfold maxLen; omega) (by rw [slash_size]; unfold maxLen; omega)).mono fun e w' (h : e = .returned (.bool (decide ((x.path ++ ⟨#[47]⟩ : ByteArray).data.toList <+: f.path.data.toList))) ∧ w1 = w') => (⟨h.1, h.2.symm⟩ : e = .returned (.bool (decide ((x.path ++ ⟨#[47]⟩ : ByteArray).data.toList <+: f.path.data.toList))) ∧ w' = w1)
                                    rw [slash_toB] at hbg
                                    obtain ⟨L, hL⟩ : ∃ q, Op.bytesLess x.path.toList f.path.toList = q := ⟨_, rfl⟩
                                    obtain ⟨B, hB⟩ : ∃ q, decide ((x.path.data.toList ++ [47]) <+: f.path.data.toList) = q := ⟨_, rfl⟩
                                    rw [hL, hB] at HP
                                    simp only [hB] at hbg
                                    have hbb : ¬ 9223372036854775807 < x.path.size + 1 := by omega
                                    clear hB
                                    cases L with
                                    | false =>
                                      obtain rfl : Q = false := HLt.out HP.out
                                      clear hbg hbb hs0
                                      go_wp2_with fail
                                      go_quiet (fail)
                                      go_wp2_with fail
                                      go_ret
                                      exact ⟨rfl, (HO.out.later (below_drewN _ _)).below⟩
                                    | true =>
                                      cases B with
                                      | true =>
                                        obtain rfl : Q = false := HLt.out HP.out
                                        go_wp2_with fail
                                        go_quiet ((go_at_call 31; exact Calls.quiet_of_same (hbg _)))
                                        go_wp2_with fail
                                        go_ret
                                        exact ⟨rfl, (HO.out.later (below_drewN _ _)).below⟩
                                      | false =>
                                        have HJ3 := Lib.hid (HJ2.out HP.out)
                                        clear HJ2
                                        go_wp2_with fail
                                        go_quiet ((go_at_call 31; exact Calls.quiet_of_same (hbg _)))
                                        go_wp2_with fail
                                        go_roundw
                                        case rel => exact ⟨j + 1, by go_num, hlj, HO.out.later (below_drewN _ _), HJ3.out⟩
                                        case measure => simp [intOf]; omega
                                  · obtain rfl : j = k := by omega
                                    have HGo := Lib.hid (HGood.out HOK2.out fun i hi => HJ.out i hi (by omega))
                                    have HG3 := Lib.hid (HG2.out HGo.out)
                                    clear HJ
                                    go_wp2_with fail
                                    go_roundw
                                    case rel => exact ⟨j + 1, by go_num, hlt, ⟨box3 55 W8.heap.size (.string f.path) (.bool f.config) (.slice f.a f.data.length f.c) :: M, HO.out⟩, HG3.out⟩
                                    case measure => simp [intOf]; omega
                              · have h6 : (512 : Int) < (f.data.length : Int) := by omega
                                obtain rfl : Q = false := HB.out (by rw [HAt.out, HOK.out, decide_eq_false h5]; simp)
                                clear hx h5
                                go_wp2_with fail
                                go_ret
                                exact ⟨rfl, HO4.out.below⟩
                      · obtain rfl : k = D.files.length := by omega
                        obtain rfl : Q = true := HA2.out HNs.out HCs.out HUs.out (fun i hi => HG.out i hi hi)
                        clear HG
                        go_wp2_with fail
                        go_ret
                        exact ⟨rfl, HO.out.below⟩
      · obtain rfl : Q = false := HQ.out.few (by
          rw [HFew.out]
          by_cases z0 : D.needs.length ≤ 8
          · by_cases z1 : D.confs.length ≤ 8
            · by_cases z2 : D.files.length ≤ 12
              · by_cases z3 : D.units.length ≤ 4
                · exact absurd ⟨z0, z1, z2, z3⟩ hall
                · rw [decide_eq_false z3, Bool.and_false]
              · rw [decide_eq_false z2, Bool.and_false, Bool.false_and]
            · rw [decide_eq_false z1, Bool.and_false, Bool.false_and, Bool.false_and]
          · rw [decide_eq_false z0]; rfl)
        have hcs : (8 : Int) < (D.needs.length : Int) ∨ (¬ (8 : Int) < (D.needs.length : Int) ∧ (8 : Int) < (D.confs.length : Int)) ∨ (¬ (8 : Int) < (D.needs.length : Int) ∧ ¬ (8 : Int) < (D.confs.length : Int) ∧ (12 : Int) < (D.files.length : Int)) ∨ (¬ (8 : Int) < (D.needs.length : Int) ∧ ¬ (8 : Int) < (D.confs.length : Int) ∧ ¬ (12 : Int) < (D.files.length : Int) ∧ (4 : Int) < (D.units.length : Int)) := by omega
        clear hall HFew HAll
        rcases hcs with i0 | ⟨i0, i1⟩ | ⟨i0, i1, i2⟩ | ⟨i0, i1, i2, i3⟩
        all_goals
          go_wp2_with fail
          go_ret
          exact ⟨rfl, HX3.out.below⟩
end Go.Proofs.YtihnjhigemhknaaGreatDoor
end

/- Four bytes of a row are turned, one by one: the row's sum is another one then. -/
section
namespace Go.Proofs.YtihnjhigemhknaaGreatDoor.Cr
open Go.RowKit
set_option linter.unusedVariables false
set_option linter.unusedSimpArgs false

theorem at0_get (L : List Int) (k : Nat) (h : k < L.length) : at0 L k = L[k] := by
  unfold at0
  rw [List.getD_eq_getElem?_getD, List.getElem?_eq_getElem h]
  rfl
theorem byte_at (L : List Int) (h : Bytes L) (k : Nat) : 0 ≤ at0 L k ∧ at0 L k < 256 := by
  by_cases hk : k < L.length
  · rw [at0_get L k hk]; exact h _ (List.getElem_mem hk)
  · unfold at0; rw [List.getD_eq_getElem?_getD, List.getElem?_eq_none (by omega)]; decide
theorem bits_bx (p q : Int) (hp : 0 ≤ p ∧ p < 256) (hq : 0 ≤ q ∧ q < 256) : Go.bits .xor .u8 p q = bx p q := u8_xor p q hp.1 hp.2 hq.1 hq.2
theorem and_65535 (q : Int) : ∃ m : Nat, Go.bits .and .i64 q 65535 = (m : Int) ∧ m ≤ 65535 := by
  refine ⟨((BitVec.ofInt 64 q) &&& 65535#64).toNat, ?_, ?_⟩
  · show IntKind.i64.wrap ((BitVec.ofInt 64 q &&& BitVec.ofInt 64 65535).toNat : Int) = _
    have h : ((BitVec.ofInt 64 q) &&& 65535#64).toNat ≤ 65535 := by rw [BitVec.toNat_and]; exact Nat.and_le_right
    have e : BitVec.ofInt 64 65535 = 65535#64 := rfl
    rw [e]
    exact IntWalk.i64_in _ (by omega)
  · rw [BitVec.toNat_and]; exact Nat.and_le_right

/-- The four bytes. -/
def byAt (b0 b1 b2 b3 : Int) (k : Nat) : Int := match k with | 0 => b0 | 1 => b1 | 2 => b2 | 3 => b3 | _ => 0
def turnTo (x : List Int) (p : Nat) (b0 b1 b2 b3 : Int) : Nat → List Int
  | 0 => x
  | k + 1 => (turnTo x p b0 b1 b2 b3 k).set (p + k) (bx (at0 (turnTo x p b0 b1 b2 b3 k) (p + k)) (byAt b0 b1 b2 b3 k))

theorem turnTo_length (x : List Int) (p : Nat) (b0 b1 b2 b3 : Int) (k : Nat) : (turnTo x p b0 b1 b2 b3 k).length = x.length := by
  induction k with
  | zero => rfl
  | succ k ih => rw [turnTo, List.length_set, ih]
theorem turnTo_bytes (x : List Int) (p : Nat) (b0 b1 b2 b3 : Int) (hx : Bytes x) (hb : ∀ k, 0 ≤ byAt b0 b1 b2 b3 k ∧ byAt b0 b1 b2 b3 k < 256) (k : Nat) : Bytes (turnTo x p b0 b1 b2 b3 k) := by
  induction k with
  | zero => exact hx
  | succ k ih =>
    intro q hq
    rw [turnTo] at hq
    rcases List.mem_or_eq_of_mem_set hq with h | rfl
    · exact ih q h
    · exact bx_byte _ _ (byte_at _ ih _).2 (hb k).2
theorem index_0 (b0 b1 b2 b3 : Int) (W : World) : Sem.run Tryz.prog (Instr.index 48 (.agg #[.int .u8 b0, .int .u8 b1, .int .u8 b2, .int .u8 b3]) (.int .i64 0)) W = .ok (.int .u8 b0) W := by kernel_rfl
theorem index_1 (b0 b1 b2 b3 : Int) (W : World) : Sem.run Tryz.prog (Instr.index 48 (.agg #[.int .u8 b0, .int .u8 b1, .int .u8 b2, .int .u8 b3]) (.int .i64 1)) W = .ok (.int .u8 b1) W := by kernel_rfl
theorem index_2 (b0 b1 b2 b3 : Int) (W : World) : Sem.run Tryz.prog (Instr.index 48 (.agg #[.int .u8 b0, .int .u8 b1, .int .u8 b2, .int .u8 b3]) (.int .i64 2)) W = .ok (.int .u8 b2) W := by kernel_rfl
theorem index_3 (b0 b1 b2 b3 : Int) (W : World) : Sem.run Tryz.prog (Instr.index 48 (.agg #[.int .u8 b0, .int .u8 b1, .int .u8 b2, .int .u8 b3]) (.int .i64 3)) W = .ok (.int .u8 b3) W := by kernel_rfl
theorem index_by (b0 b1 b2 b3 : Int) (k : Nat) (hk : k < 4) (W : World) : Sem.run Tryz.prog (Instr.index 48 (.agg #[.int .u8 b0, .int .u8 b1, .int .u8 b2, .int .u8 b3]) (.int .i64 (k : Int))) W = .ok (.int .u8 (byAt b0 b1 b2 b3 k)) W := by
  have h : k = 0 ∨ k = 1 ∨ k = 2 ∨ k = 3 := by omega
  rcases h with rfl | rfl | rfl | rfl
  · exact index_0 b0 b1 b2 b3 W
  · exact index_1 b0 b1 b2 b3 W
  · exact index_2 b0 b1 b2 b3 W
  · exact index_3 b0 b1 b2 b3 W

theorem turn_tells (x : List Int) (p : Nat) (b0 b1 b2 b3 : Int) (hx : Bytes x) (hb : ∀ k, 0 ≤ byAt b0 b1 b2 b3 k ∧ byAt b0 b1 b2 b3 k < 256) (hp : p + 4 ≤ x.length) :
    crc x = crc (turnTo x p b0 b1 b2 b3 4) ↔ b0 = 0 ∧ b1 = 0 ∧ b2 = 0 ∧ b3 = 0 := by
  have h : ∀ k, k ≤ 4 → ∀ i, i < x.length → at0 (turnTo x p b0 b1 b2 b3 k) i = bx (at0 x i) (if p ≤ i ∧ i < p + k then byAt b0 b1 b2 b3 (i - p) else 0) := by
    intro k
    induction k with
    | zero =>
      intro _ i hi
      rw [if_neg (by omega), turnTo]
      unfold bx
      have := (byte_at x hx i).1
      simp
      omega
    | succ k ih =>
      intro hk i hi
      have ih := ih (by omega)
      rw [turnTo, at0_set, turnTo_length]
      by_cases h : p + k = i
      · subst h
        rw [if_pos ⟨rfl, hi⟩, if_pos (by omega), show p + k - p = k from by omega]
        have e : at0 (turnTo x p b0 b1 b2 b3 k) (p + k) = at0 x (p + k) := by
          rw [ih _ hi, if_neg (by omega)]
          unfold bx
          have := (byte_at x hx (p + k)).1
          simp
          omega
        rw [e]
      · rw [if_neg (by omega), ih i hi]
        by_cases h2 : p ≤ i ∧ i < p + k
        · rw [if_pos h2, if_pos (by omega)]
        · rw [if_neg h2, if_neg (by omega)]
  refine tells x _ p b0 b1 b2 b3 hx (turnTo_bytes x p b0 b1 b2 b3 hx hb 4) (turnTo_length _ _ _ _ _ _ _) hp (hb 0) (hb 1) (hb 2) (hb 3) ?_
  intro i hi hi'
  rw [← at0_get _ _ hi', h 4 (Nat.le_refl _) i hi, at0_get x i hi]
  congr 1
  by_cases c0 : i = p
  · subst c0; simp [byAt]
  · by_cases c1 : i = p + 1
    · subst c1; simp [byAt]
    · by_cases c2 : i = p + 2
      · subst c2; simp [byAt]
      · by_cases c3 : i = p + 3
        · subst c3; simp [byAt]
        · rw [if_neg (by omega), if_neg c0, if_neg c1, if_neg c2, if_neg c3]

theorem eq4 (a b c d : Int) (w : World) : (Op.equalIn 10000 48 (.agg #[.int .u8 a, .int .u8 b, .int .u8 c, .int .u8 d]) (.agg #[.int .u8 0, .int .u8 0, .int .u8 0, .int .u8 0])).run Tryz.prog w = .ok (a == 0 && (b == 0 && (c == 0 && d == 0))) w := by
  have u3 := Tryz.underlying5
  have a3 := Tryz.isAgg5
  have z3 := Tryz.sizeOf5
  rw [show (10000 : Nat) = 9999 + 1 from rfl, Op.equalIn]
  simp only [Sem.run_bind, run_underlying Tryz.underlying48, Result.andThen_ok]
  simp only [Std.Legacy.Range.forIn_eq_forIn_range', Std.Legacy.Range.size, Nat.sub_zero, Nat.add_sub_cancel, Nat.div_one, List.range'_succ, List.range'_zero, List.forIn_cons, List.forIn_nil]
  go_simp
  by_cases h1 : a = 0 <;> by_cases h2 : b = 0 <;> by_cases h3 : c = 0 <;> by_cases h4 : d = 0 <;> simp [h1, h2, h3, h4]
end Go.Proofs.YtihnjhigemhknaaGreatDoor.Cr
end

/- ArcSpoils: its walk. -/
section
namespace Go.Proofs.YtihnjhigemhknaaGreatDoor
open Go.RowKit
set_option linter.unusedVariables false
set_option linter.unusedSimpArgs false
set_option maxRecDepth 100000

def rowB4 (H : Nat) (b0 b1 b2 b3 : Int) : Rw := ⟨48, 1, .slice (some ⟨H, 0, none⟩) 4 4, 4, [.int .u8 b0, .int .u8 b1, .int .u8 b2, .int .u8 b3]⟩
theorem b4_cells {W0 : Base} {w : World} {L : List Rw} {H : Nat} {b0 b1 b2 b3 : Int} (h : Own W0 w L) (hm : rowB4 H b0 b1 b2 b3 ∈ L) : w.cell? ⟨H, 0, none⟩ = some (.int .u8 b0) ∧ w.cell? ⟨H, 1, none⟩ = some (.int .u8 b1) ∧ w.cell? ⟨H, 2, none⟩ = some (.int .u8 b2) ∧ w.cell? ⟨H, 3, none⟩ = some (.int .u8 b3) := by
  have h1 := h.only hm
  exact ⟨Own.cell (h := h1) 0 (by decide), Own.cell (h := h1) 1 (by decide), Own.cell (h := h1) 2 (by decide), Own.cell (h := h1) 3 (by decide)⟩
/-- Read, where all that is asked is the error. -/
def ReadsAs (x : Int) (w : World) : Ending → World → Prop := fun e w' => ∃ (s1 s2 : ByteArray) (a1 a2 a3 a4 : Option Addr) (n1 c1 n2 c2 n3 c3 n4 c4 : Nat), e = .returned (.tuple #[(.agg #[.string s1, .string s2, .slice a1 n1 c1, .slice a2 n2 c2, .slice a3 n3 c3, .slice a4 n4 c4]), .int .i64 x]) ∧ Below w.heap.size w w'
theorem read_spoilt {C : List Int} (hl : C.length ≤ 1000000) (hn : ¬ sumFits C) (v : Value) (w : World) (h : By w v C) (hm : Mx w) : Calls Tryz.prog 12 #[v] w (ReadsAs 5 w) :=
  (read_any v C w h hl hm).mono fun e w' hd => by
    rcases hd with ⟨_, he, hb⟩ | ⟨hf, _⟩
    · exact ⟨_, _, _, _, _, _, _, _, _, _, _, _, _, _, he, hb⟩
    · exact absurd hf hn
theorem read_own_as (D : PkgD) (hs : SmallD D) (hk : pkOk D = true) (v : Value) (w : World) (h : By w v (writeP D)) (hm : Mx w) : Calls Tryz.prog 12 #[v] w (ReadsAs 0 w) :=
  (read_own D hs hk v w h hm).mono fun e w' ⟨D', P', _, _, _, hb, he⟩ => ⟨_, _, _, _, _, _, _, _, _, _, _, _, _, _, he, hb⟩
theorem u8_cellA {W0 : Base} {w : World} {g n cap : Nat} {X : List Int} {L : List Rw} (h : Own W0 w (⟨5, 1, .slice (some ⟨g, 0, none⟩) n cap, n, bs X⟩ :: L)) (hl : X.length = n) (k : Nat) (hk : k < n) : w.cell? ⟨g, k, none⟩ = some (.int .u8 (Cr.at0 X k)) := by
  rw [Own.cell (h := h) k (by omega), Cr.at0_get X k (by omega)]
  simp [bs, List.getElem?_eq_getElem (show k < X.length by omega)]
theorem turn_none (x : List Int) (p : Nat) (hx : Cr.Bytes x) : ∀ k, Cr.turnTo x p 0 0 0 0 k = x
  | 0 => rfl
  | k + 1 => by
    have hb : Cr.byAt 0 0 0 0 k = 0 := by unfold Cr.byAt; split <;> rfl
    rw [Cr.turnTo, turn_none x p hx k, hb]
    have h1 := (Cr.byte_at x hx (p + k)).1
    have e : Cr.bx (Cr.at0 x (p + k)) 0 = Cr.at0 x (p + k) := by unfold Cr.bx; simp; omega
    rw [e]
    by_cases hl : p + k < x.length
    · rw [Cr.at0_get x _ hl]; exact List.set_getElem_self hl
    · exact List.set_eq_of_length_le (by omega)
set_option maxHeartbeats 16000000 in
theorem spoils_law (D : PkgD) (P : PkL) (q b0 b1 b2 b3 : Int) (w : World) (hD : PkAt w D P) (hr : RoomD D) (hm : Mx w) (hq : (Lit.int .i64 q).wf = true) (k0 : 0 ≤ b0 ∧ b0 < 256) (k1 : 0 ≤ b1 ∧ b1 < 256) (k2 : 0 ≤ b2 ∧ b2 < 256) (k3 : 0 ≤ b3 ∧ b3 < 256) :
    Calls Tryz.prog 5 #[.agg #[.string D.name, .string D.ver, .slice P.an D.needs.length P.cn, .slice P.ac D.confs.length P.cc, .slice P.af D.files.length P.cf, .slice P.au D.units.length P.cu], .int .i64 q, .agg #[.int .u8 b0, .int .u8 b1, .int .u8 b2, .int .u8 b3]] w fun e w' => e = .returned (.bool true) ∧ Below w.heap.size w w' := by
  have hO1 := (Own.start w).made 26 6 #[.string D.name, .string D.ver, .slice P.an D.needs.length P.cn, .slice P.ac D.confs.length P.cc, .slice P.af D.files.length P.cf, .slice P.au D.units.length P.cu] 1 rfl (by unfold maxLen; decide)
  have s1 : w.heap.size + 1 = (w.alloc (.cells #[.string D.name, .string D.ver, .slice P.an D.needs.length P.cn, .slice P.ac D.confs.length P.cc, .slice P.af D.files.length P.cf, .slice P.au D.units.length P.cu] 26)).heap.size := by simp
  have HX := Lib.hid (show Own w _ [rowB4 (w.heap.size + 1) b0 b1 b2 b3, rowPk w.heap.size D P] from hO1.made_at 48 1 #[.int .u8 b0, .int .u8 b1, .int .u8 b2, .int .u8 b3] 4 (w.heap.size + 1) s1 rfl (by unfold maxLen; decide))
  have HD := Lib.hid hD
  have HR := Lib.hid hr
  have Hm := Lib.hid hm
  have HA := fun w1 (h : Mx w1) => aalive_any w1 h
  have HS := fun w1 (h : PkAt w1 D P) => small_any D P w1 h hr
  clear hO1 s1 hD hr hm
  go_enter Tryz.func5, Tryz.ntmps5
  go_wp2_with fail
  refine (HA _ (Hm.out.later HX.out.below)).mono ?_
  rintro e w1 ⟨rfl, hb1⟩
  have HX1 := Lib.hid (HX.out.later hb1)
  obtain ⟨p0, p1, p2, p3, p4, p5⟩ := pk_cells HX1.out (g := w.heap.size) (D := D) (P := P) (by simp)
  clear hb1 HA HX
  go_wp2_with fail
  refine (HS _ (HD.out.later HX1.out.below)).mono ?_
  rintro e w2 ⟨hsm, hb2⟩
  have HX2 := Lib.hid (HX1.out.later hb2)
  clear p0 p1 p2 p3 p4 p5 hb2 HS HX1
  rcases hsm with rfl | ⟨rfl, hsm⟩
  · go_wp2_with fail
    go_ret
    exact ⟨rfl, HX2.out.below⟩
  · obtain ⟨p0, p1, p2, p3, p4, p5⟩ := pk_cells HX2.out (g := w.heap.size) (D := D) (P := P) (by simp)
    have hd2 := HD.out.later HX2.out.below
    have hm2 := Hm.out.later HX2.out.below
    by_cases hk : pkOk D = true
    · have hbt := packP_byts D hsm.fits (few_of hk) fun f hx => (HD.out.data f hx).2.1
      have hwb : Byts (writeP D) := hbt.append (le4_byts _ (crcI_le (packP D)).1 (crcI_le (packP D)).2)
      have hlen := fits_small hsm
      have hl : (writeP D).length = (packP D).length + 4 := by unfold writeP; rw [List.length_append]; rfl
      have hfit : sumFits (writeP D) := fits_own (packP D)
      have HRd := fun v w' => read_own_as D hsm hk v w'
      have hwr := write_yes D P w2 hd2 hsm.fits hm2 hk
      clear hd2 hsm hbt HR HD
      obtain ⟨zs, hzs⟩ : ∃ zs, writeP D = zs := ⟨_, rfl⟩
      rw [hzs] at hwb hl hfit HRd hwr
      generalize (packP D).length = pl at *
      clear hzs hk hm2
      go_wp2_with fail
      refine hwr.mono ?_
      rintro e w4 ⟨v4, rfl, hO4⟩
      have HX4 := Lib.hid (show Own w w4 (rowU v4 zs :: [rowB4 (w.heap.size + 1) b0 b1 b2 b3, rowPk w.heap.size D P]) from HX2.out.join hO4)
      obtain ⟨a4, c4, rfl, hc4, hc4m⟩ := Own.sized (h := hO4)
      have HB4 := Lib.hid (hO4.by hwb)
      clear p0 p1 p2 p3 p4 p5 hO4 hwr HX2
      obtain ⟨i0, hi, hz0, hz1, hz2⟩ := info_parts info_u
      have HE := Lib.hid (show Own w (w4.alloc (.cells #[] 5)) (⟨5, 1, .slice (some ⟨w4.heap.size, 0, none⟩) 0 0, 0, []⟩ :: rowU (.slice a4 zs.length c4) zs :: [rowB4 (w.heap.size + 1) b0 b1 b2 b3, rowPk w.heap.size D P]) from HX4.out.made 5 1 #[] 0 rfl (by unfold maxLen; decide))
      have HSr := Lib.hid (HB4.out.later ((Below.refl _ w4).alloc (Nat.le_refl _) (.cells #[] 5))).1
      have Hwb := Lib.hid hwb
      have Hfit := Lib.hid hfit
      have hzl : zs.length ≤ 100004 := by omega
      have hz4 : 4 ≤ zs.length := by omega
      clear hwb hfit HX4 hl hlen
      go_wp2_with (at_builtin; refine wpList_append_src rfl (.tmp 28) (.tmp 29) 34 rfl _ 0 [] (.slice a4 zs.length c4) zs.length (bs zs) rfl rfl HE.out i0 (.int .u8 0) 1 Tryz.underlying34 hi hz0 hz1 hz2 rfl (by decide) HSr.out (by rw [bs_length, Nat.mul_one]) (by unfold maxLen; omega) (by omega) ?_)
      intro v5 w5 hO5
      obtain ⟨g, cp, rfl, _, hgl, hncp, hcm⟩ := Own.form (h := hO5) (by omega)
      have HO5 := Lib.hid hO5
      clear hO5 HE HSr
      obtain ⟨m, hmq, hm1⟩ := Cr.and_65535 q
      obtain ⟨p, hp⟩ : ∃ p, p = m % (zs.length - 3) := ⟨_, rfl⟩
      have hp1 : p + 4 ≤ zs.length := by have := Nat.mod_lt m (show 0 < zs.length - 3 by omega); omega
      have hpe : (m : Int) % ((zs.length : Int) - 3) = (p : Int) := by rw [hp, Int.natCast_emod, Int.natCast_sub (by omega)]; rfl
      clear hp
      have kk : ∀ k, 0 ≤ Cr.byAt b0 b1 b2 b3 k ∧ Cr.byAt b0 b1 b2 b3 k < 256 := fun k => by unfold Cr.byAt; split <;> omega
      have Hkk := Lib.hid kk
      clear kk
      obtain ⟨d0, d1, d2, d3⟩ := b4_cells HO5.out (H := w.heap.size + 1) (b0 := b0) (b1 := b1) (b2 := b2) (b3 := b3) (by simp)
      go_wp2_with fail
      clear d0 d1 d2 d3
      go_loopw [10, 11, 38] (fun _ _ i wr => ∃ k : Nat, k ≤ 4 ∧ i = .int .i64 k ∧ Own w wr (⟨5, 1, .slice (some ⟨g, 0, none⟩) zs.length cp, zs.length, bs (Cr.turnTo zs p b0 b1 b2 b3 k)⟩ :: rowU (.slice a4 zs.length c4) zs :: [rowB4 (w.heap.size + 1) b0 b1 b2 b3, rowPk w.heap.size D P])) (fun _ _ i _ => 4 - (intOf i).toNat)
      case atStart => exact ⟨0, by omega, rfl, HO5.out⟩
      case round =>
        clear HO5
        obtain ⟨k, hk, rfl, hO⟩ := hrel
        by_cases hlk : k < 4
        · have hix : ∀ W : World, Sem.run Tryz.prog (Instr.index 48 (.agg #[.int .u8 b0, .int .u8 b1, .int .u8 b2, .int .u8 b3]) (.int .i64 (k : Int))) W = .ok (.int .u8 (Cr.byAt b0 b1 b2 b3 k)) W := Cr.index_by b0 b1 b2 b3 k hlk
          have hc := u8_cellA hO (Cr.turnTo_length _ _ _ _ _ _ _) (p + k) (by omega)
          have hf := Own.free (h := hO) (p + k)
          have hS := Own.set (h := hO) (p + k) (.int .u8 (Cr.bx (Cr.at0 (Cr.turnTo zs p b0 b1 b2 b3 k) (p + k)) (Cr.byAt b0 b1 b2 b3 k)))
          have hrb := Cr.byte_at _ (Cr.turnTo_bytes zs p b0 b1 b2 b3 (byts_cr Hwb.out) Hkk.out k) (p + k)
          have hkb := Hkk.out k
          have hbx := Cr.bits_bx _ _ hrb hkb
          have HT := Lib.hid (show Cr.turnTo zs p b0 b1 b2 b3 (k + 1) = (Cr.turnTo zs p b0 b1 b2 b3 k).set (p + k) (Cr.bx (Cr.at0 (Cr.turnTo zs p b0 b1 b2 b3 k) (p + k)) (Cr.byAt b0 b1 b2 b3 k)) from rfl)
          generalize Cr.at0 (Cr.turnTo zs p b0 b1 b2 b3 k) (p + k) = r at *
          generalize Cr.byAt b0 b1 b2 b3 k = c at *
          obtain ⟨hr0, hr1⟩ := hrb
          obtain ⟨hc0, hc1⟩ := hkb
          have HSt := Lib.hid hS
          clear hS hO
          go_wp2_with fail
          go_roundw
          case rel => exact ⟨k + 1, by omega, by go_num, by rw [HT.out]; simpa only [bs, List.map_set] using HSt.out⟩
          case measure => simp [intOf]; omega
        · obtain rfl : k = 4 := by omega
          have hCl : (Cr.turnTo zs p b0 b1 b2 b3 4).length = zs.length := Cr.turnTo_length _ _ _ _ _ _ _
          have hCb : Byts (Cr.turnTo zs p b0 b1 b2 b3 4) := fun x hx => Cr.turnTo_bytes zs p b0 b1 b2 b3 (byts_cr Hwb.out) Hkk.out 4 x hx
          have HX6 := Lib.hid (show Own w wr (rowU (.slice (some ⟨g, 0, none⟩) zs.length cp) (Cr.turnTo zs p b0 b1 b2 b3 4) :: rowU (.slice a4 zs.length c4) zs :: [rowB4 (w.heap.size + 1) b0 b1 b2 b3, rowPk w.heap.size D P]) by
            have h := hO
            unfold rowU at h ⊢
            rw [hCl]
            exact h)
          have HBC := Lib.hid (HX6.out.by hCb)
          obtain ⟨x, B, hCR, hEq, hfin⟩ : ∃ (x : Int) (B : Bool), (∀ v w', By w' v (Cr.turnTo zs p b0 b1 b2 b3 4) → Mx w' → Calls Tryz.prog 12 #[v] w' (ReadsAs x w')) ∧ (∀ W, Sem.run Tryz.prog (Op.equalIn 10000 48 (.agg #[.int .u8 b0, .int .u8 b1, .int .u8 b2, .int .u8 b3]) (.agg #[.int .u8 0, .int .u8 0, .int .u8 0, .int .u8 0])) W = .ok B W) ∧ ((x = 0 ∧ B = true) ∨ (x = 5 ∧ B = false)) := by
            by_cases hz : b0 = 0 ∧ b1 = 0 ∧ b2 = 0 ∧ b3 = 0
            · obtain ⟨rfl, rfl, rfl, rfl⟩ := hz
              rw [turn_none zs p (byts_cr Hwb.out)]
              exact ⟨0, true, HRd, Cr.eq4 0 0 0 0, .inl ⟨rfl, rfl⟩⟩
            · have hns : ¬ sumFits (Cr.turnTo zs p b0 b1 b2 b3 4) := fun hf => hz ((Cr.turn_tells zs p b0 b1 b2 b3 (byts_cr Hwb.out) Hkk.out hp1).1 (by rw [crc_fits Hfit.out, crc_fits hf]))
              have he : (b0 == 0 && (b1 == 0 && (b2 == 0 && b3 == 0))) = false := by
                rw [Bool.eq_false_iff]
                intro h
                simp only [Bool.and_eq_true, beq_iff_eq] at h
                exact hz h
              exact ⟨5, false, fun v w' h1 h2 => read_spoilt (by omega) hns v w' h1 h2, fun W => by rw [← he]; exact Cr.eq4 b0 b1 b2 b3 W, .inr ⟨rfl, rfl⟩⟩
          have HB6 := Lib.hid (HX6.out.tail.by Hwb.out)
          generalize Cr.turnTo zs p b0 b1 b2 b3 4 = C at *
          clear hO hCl hCb Hwb Hfit Hkk HB4
          go_wp2_with fail
          refine (hCR _ _ HBC.out (Hm.out.later HX6.out.below)).mono ?_
          rintro e w7 ⟨s1, s2, x1, x2, x3, x4, n1, y1, n2, y2, n3, y3, n4, y4, rfl, hb7⟩
          have HX7 := Lib.hid ((HX6.out.later hb7).alloc (.cells #[.string s1, .string s2, .slice x1 n1 y1, .slice x2 n2 y2, .slice x3 n3 y3, .slice x4 n4 y4] 26))
          have HB7 := Lib.hid ((HB6.out.later hb7).later ((Below.refl _ w7).alloc (Nat.le_refl _) (.cells #[.string s1, .string s2, .slice x1 n1 y1, .slice x2 n2 y2, .slice x3 n3 y3, .slice x4 n4 y4] 26)))
          clear hb7 hCR HBC HX6 HB6
          go_wp2_with fail
          refine (HRd _ _ HB7.out (Hm.out.later HX7.out.below)).mono ?_
          rintro e w8 ⟨t1, t2, z1, z2, z3, z4, l1, u1, l2, u2, l3, u3, l4, u4, rfl, hb8⟩
          have HX8 := Lib.hid (HX7.out.later hb8)
          obtain ⟨d0, d1, d2, d3⟩ := b4_cells HX8.out (H := w.heap.size + 1) (b0 := b0) (b1 := b1) (b2 := b2) (b3 := b3) (by simp)
          have hsz := World.block_lt_of_cell? _ _ d0
          clear hb8 HRd HX7 HB7 Hm
          rcases hfin with ⟨rfl, rfl⟩ | ⟨rfl, rfl⟩
          · go_wp2_with fail
            go_ret
            exact ⟨rfl, (HX8.out.alloc _).below⟩
          · go_wp2_with fail
            go_ret
            exact ⟨rfl, (HX8.out.alloc _).below⟩
    · have hwr := write_no D P w2 hd2 hsm.fits hm2 (by simpa using hk)
      clear hd2 hsm hk HR HD hm2
      go_wp2_with fail
      refine hwr.mono ?_
      rintro e w4 ⟨rfl, hb4⟩
      have HX4 := Lib.hid (HX2.out.later hb4)
      clear hb4 hwr p0 p1 p2 p3 p4 p5
      go_wp2_with fail
      go_ret
      exact ⟨rfl, HX4.out.below⟩
end Go.Proofs.YtihnjhigemhknaaGreatDoor
end

/- A package, four bytes, as arguments. -/
section
namespace Go.Proofs.YtihnjhigemhknaaGreatDoor
open Go.RowKit Go.WideShapes Go.ChangeShapes Go.ChangeAt
set_option linter.unusedVariables false
set_option linter.unusedSimpArgs false
set_option maxRecDepth 100000

theorem choose_listA {β : Type} {P : Nat → β → Prop} : ∀ (n : Nat), (∀ i < n, ∃ y, P i y) → ∃ l : List β, l.length = n ∧ ∀ i (hi : i < l.length), P i l[i] := by
  intro n
  induction n with
  | zero => intro _; exact ⟨[], rfl, fun i hi => absurd hi (by simp)⟩
  | succ n ih =>
    intro h
    obtain ⟨l, h1, h2⟩ := ih fun i hi => h i (by omega)
    obtain ⟨y, hy⟩ := h n (Nat.lt_succ_self n)
    refine ⟨l ++ [y], by simp [h1], fun i hi => ?_⟩
    by_cases hin : i < l.length
    · rw [List.getElem_append_left hin]; exact h2 i hin
    · have : i = l.length := by simp at hi; omega
      subst this
      simp only [List.getElem_append_right (Nat.le_refl _), Nat.sub_self, List.getElem_cons_zero]
      rw [h1]; exact hy
theorem spot_zeroA {ad : Addr} {w : World} {v : Value} (h : w.cell? (ad.add 0) = some v) : ad.spot = none := by
  have := World.cell?_spot h
  unfold Addr.add at this
  rwa [if_pos rfl] at this
theorem spot_cellsA {w : World} {base n : Nat} {ad : Addr} {cs : List Value} (h : w.cells? base (ad.add (0 * n)) n = some cs) (hn : 0 < n) : ad.spot = none := by
  obtain ⟨_, h2, h3⟩ := World.cells?_some h
  have h0 := h3 0 hn
  rw [List.getElem?_eq_getElem (by omega), Nat.zero_mul] at h0
  have e : (ad.add 0) = ad := by unfold Addr.add; rw [if_pos rfl]
  rw [e] at h0
  exact spot_zeroA h0
theorem cells_atA {w : World} {base k n : Nat} {ad : Addr} {cs : List Value} (h : w.cells? base (ad.add k) n = some cs) (hs : ad.spot = none) : ∃ b off, ad = ⟨b, off, none⟩ ∧ w.rangeAt b (off + k) cs ∧ cs.length = n := by
  obtain ⟨_, h2, h3⟩ := World.cells?_some h
  obtain ⟨b, off, spot⟩ := ad
  have hs : spot = none := hs
  subst hs
  refine ⟨b, off, rfl, fun j v hj => ?_, h2⟩
  have hjl : j < n := by
    rw [← h2]
    exact (List.getElem?_eq_some_iff.1 hj).1
  have := h3 j hjl
  rw [Addr.add_mid, Addr.add_mid] at this
  rw [this]; exact hj
section
variable {H : Type} {enc : TypeId × Value → H} {P : Program} {w : World} {base : Nat} {spare : Nat → Bool} {held : Bool}
theorem trod_struct6 {t : TypeId} {f0 f1 f2 f3 f4 f5 : Field} {fuel : Nat} {cs : List Value} {x : DataW H × List MemPlace} (ht : P.underlying t = some (.struct #[f0, f1, f2, f3, f4, f5])) (h : DataW.trod enc P w base spare held fuel t cs = some x) :
    ∃ y0 y1 y2 y3 y4 y5 n, cs.length = P.cellsOf t ∧ DataW.trod enc P w base spare held n f0.type ((cs.drop f0.offset).take (P.cellsOf f0.type)) = some y0 ∧
      DataW.trod enc P w base spare held n f1.type ((cs.drop f1.offset).take (P.cellsOf f1.type)) = some y1 ∧ DataW.trod enc P w base spare held n f2.type ((cs.drop f2.offset).take (P.cellsOf f2.type)) = some y2 ∧
      DataW.trod enc P w base spare held n f3.type ((cs.drop f3.offset).take (P.cellsOf f3.type)) = some y3 ∧ DataW.trod enc P w base spare held n f4.type ((cs.drop f4.offset).take (P.cellsOf f4.type)) = some y4 ∧
      DataW.trod enc P w base spare held n f5.type ((cs.drop f5.offset).take (P.cellsOf f5.type)) = some y5 := by
  obtain ⟨xs, n, _, rfl, hl, hlen, hf⟩ := DataW.trod_struct ht h
  match xs, hlen with
  | [y0, y1, y2, y3, y4, y5], _ => exact ⟨y0, y1, y2, y3, y4, y5, n, hl, by simpa using hf 0 f0 rfl, by simpa using hf 1 f1 rfl, by simpa using hf 2 f2 rfl, by simpa using hf 3 f3 rfl, by simpa using hf 4 f4 rfl, by simpa using hf 5 f5 rfl⟩
end
theorem cellsNeed : Tryz.prog.cellsOf 53 = 3 := by kernel_rfl
theorem cellsFile : Tryz.prog.cellsOf 51 = 3 := by kernel_rfl
theorem cellsPkg : Tryz.prog.cellsOf 26 = 6 := by kernel_rfl
theorem cellsStr : Tryz.prog.cellsOf 9 = 1 := by kernel_rfl
theorem cellsInt : Tryz.prog.cellsOf 3 = 1 := by kernel_rfl
theorem cellsBool : Tryz.prog.cellsOf 4 = 1 := by kernel_rfl
theorem cellsBy : Tryz.prog.cellsOf 34 = 1 := by kernel_rfl
theorem cellsNeeds : Tryz.prog.cellsOf 22 = 1 := by kernel_rfl
theorem cellsStrs : Tryz.prog.cellsOf 23 = 1 := by kernel_rfl
theorem cellsFiles : Tryz.prog.cellsOf 24 = 1 := by kernel_rfl
theorem cellsU8 : Tryz.prog.cellsOf 5 = 1 := by kernel_rfl
theorem cellsFour : Tryz.prog.cellsOf 48 = 4 := by kernel_rfl
section
variable {H : Type} {enc : TypeId × Value → H} {w : World} {base fuel : Nat} {held : Bool} {v : Value} {x : DataW H × List MemPlace}
theorem open_byA (hf : DataW.trod enc Tryz.prog w base (fun _ => true) held fuel 34 [v] = some x) : ∃ zs, By w v zs := by
  rcases open_ints Tryz.underlying34 Tryz.underlying5 (by kernel_rfl) hf with ⟨hcs, _⟩ | ⟨xa, l, c, zs, hcs, _, hl, hm, hz, _, hcell, hwz⟩
  · injection hcs with hcs _
    exact ⟨[], by rw [hcs]; exact By.nil w⟩
  · injection hcs with hcs _
    have hz2 : zs.length = c := by simpa using hz
    exact ⟨zs.take l, by rw [hcs]; exact by_arg w _ _ _ zs hl hm hz2 hcell hwz⟩
theorem open_needs (hf : DataW.trod enc Tryz.prog w base (fun _ => true) held fuel 22 [v] = some x) :
    ∃ (a : Option Addr) (xs : List NeedD) (cap : Nat), v = .slice a xs.length cap ∧ SlcA w a 3 (xs.map fun x => x.cells) ∧ xs.length ≤ maxLen ∧ ∀ n ∈ xs, n.name.size ≤ maxLen ∧ n.ver.size ≤ maxLen := by
  rcases Go.Deep.open_slice Tryz.underlying22 hf with ⟨h1, hx⟩ | ⟨ad, len, cp, m, q, D, Pl, h1, hb, hl, hm, hmm, hxx, hx⟩
  · injection h1 with h1 _
    subst h1
    exact ⟨none, [], 0, rfl, fun i hi => absurd hi (by simp), Nat.zero_le _, fun n hn => by cases hn⟩
  · injection h1 with h1 _
    subst h1
    have hsp0 : 0 < len → ad.spot = none := fun h0 => by
      obtain ⟨cs, hc, _⟩ := hx 0 (by rw [hmm]; split <;> omega)
      rw [cellsNeed] at hc
      exact spot_cellsA hc (by decide)
    have each : ∀ i < len, ∃ y : NeedD, (∃ g off, (some ad) = some ⟨g, off, none⟩ ∧ w.rangeAt g (off + i * 3) y.cells) ∧ y.name.size ≤ maxLen ∧ y.ver.size ≤ maxLen := fun i hi => by
      obtain ⟨cs, hc, ht⟩ := hx i (by rw [hmm]; split <;> omega)
      rw [cellsNeed] at hc
      obtain ⟨b, off, e, hr, hlen⟩ := cells_atA hc (hsp0 (by omega))
      obtain ⟨c0, c1, c2, rfl⟩ : ∃ c0 c1 c2, cs = [c0, c1, c2] := by
        match cs, hlen with
        | [c0, c1, c2], _ => exact ⟨c0, c1, c2, rfl⟩
      obtain ⟨y0, y1, y2, n', _, hcl, t0, t1, t2⟩ := Go.Deep.trod_struct3 Tryz.underlying53 ht
      simp only [cellsStr, cellsInt, List.drop_zero, List.drop_succ_cons, List.take_succ_cons, List.take_zero] at t0 t1 t2
      obtain ⟨s1, e0, _, w0⟩ := DataW.trod_string Tryz.underlying9 t0
      obtain ⟨κ, e1, _, w1⟩ := DataW.trod_int Tryz.underlying3 t1
      obtain ⟨s2, e2, _, w2⟩ := DataW.trod_string Tryz.underlying9 t2
      injection e0 with e0 _; injection e1 with e1 _; injection e2 with e2 _
      subst e0 e1 e2
      exact ⟨⟨s1, κ, s2⟩, ⟨b, off, by rw [e], hr⟩, w0, w2⟩
    obtain ⟨l, hl1, hl2⟩ := choose_listA len each
    refine ⟨some ad, l, cp, by rw [hl1], fun i hi => ?_, by omega, fun n hn => ?_⟩
    · have hi' : i < l.length := by simpa using hi
      rw [List.getElem_map]
      exact (hl2 i hi').1
    · obtain ⟨i, hi, rfl⟩ := List.getElem_of_mem hn
      exact (hl2 i hi).2
theorem open_strs (hf : DataW.trod enc Tryz.prog w base (fun _ => true) held fuel 23 [v] = some x) :
    ∃ (a : Option Addr) (xs : List ByteArray) (cap : Nat), v = .slice a xs.length cap ∧ SlcA w a 1 (xs.map fun x => [Value.string x]) ∧ xs.length ≤ maxLen ∧ ∀ n ∈ xs, n.size ≤ maxLen := by
  rcases Go.Deep.open_slice Tryz.underlying23 hf with ⟨h1, hx⟩ | ⟨ad, len, cp, m, q, D, Pl, h1, hb, hl, hm, hmm, hxx, hx⟩
  · injection h1 with h1 _
    subst h1
    exact ⟨none, [], 0, rfl, fun i hi => absurd hi (by simp), Nat.zero_le _, fun n hn => by cases hn⟩
  · injection h1 with h1 _
    subst h1
    have hsp0 : 0 < len → ad.spot = none := fun h0 => by
      obtain ⟨cs, hc, _⟩ := hx 0 (by rw [hmm]; split <;> omega)
      rw [cellsStr] at hc
      exact spot_cellsA hc (by decide)
    have each : ∀ i < len, ∃ y : ByteArray, (∃ g off, (some ad) = some ⟨g, off, none⟩ ∧ w.rangeAt g (off + i * 1) [Value.string y]) ∧ y.size ≤ maxLen := fun i hi => by
      obtain ⟨cs, hc, ht⟩ := hx i (by rw [hmm]; split <;> omega)
      rw [cellsStr] at hc
      obtain ⟨b, off, e, hr, hlen⟩ := cells_atA hc (hsp0 (by omega))
      obtain ⟨c0, rfl⟩ : ∃ c0, cs = [c0] := by
        match cs, hlen with
        | [c0], _ => exact ⟨c0, rfl⟩
      obtain ⟨s1, e0, _, w0⟩ := DataW.trod_string Tryz.underlying9 ht
      injection e0 with e0 _
      subst e0
      exact ⟨s1, ⟨b, off, by rw [e], hr⟩, w0⟩
    obtain ⟨l, hl1, hl2⟩ := choose_listA len each
    refine ⟨some ad, l, cp, by rw [hl1], fun i hi => ?_, by omega, fun n hn => ?_⟩
    · have hi' : i < l.length := by simpa using hi
      rw [List.getElem_map]
      exact (hl2 i hi').1
    · obtain ⟨i, hi, rfl⟩ := List.getElem_of_mem hn
      exact (hl2 i hi).2
theorem open_files (hf : DataW.trod enc Tryz.prog w base (fun _ => true) held fuel 24 [v] = some x) :
    ∃ (a : Option Addr) (xs : List FileD) (cap : Nat), v = .slice a xs.length cap ∧ SlcA w a 3 (xs.map fun x => x.cells) ∧ xs.length ≤ maxLen ∧ (∀ n ∈ xs, n.path.size ≤ maxLen ∧ n.data.length ≤ maxLen) ∧ (∀ f ∈ xs, By w (.slice f.a f.data.length f.c) f.data) ∧ xs.length ≤ cap := by
  rcases Go.Deep.open_slice Tryz.underlying24 hf with ⟨h1, hx⟩ | ⟨ad, len, cp, m, q, D, Pl, h1, hb, hl, hm, hmm, hxx, hx⟩
  · injection h1 with h1 _
    subst h1
    exact ⟨none, [], 0, rfl, fun i hi => absurd hi (by simp), Nat.zero_le _, fun n hn => (by cases hn), fun n hn => (by cases hn), Nat.le_refl _⟩
  · injection h1 with h1 _
    subst h1
    have hsp0 : 0 < len → ad.spot = none := fun h0 => by
      obtain ⟨cs, hc, _⟩ := hx 0 (by rw [hmm]; split <;> omega)
      rw [cellsFile] at hc
      exact spot_cellsA hc (by decide)
    have each : ∀ i < len, ∃ y : FileD, (∃ g off, (some ad) = some ⟨g, off, none⟩ ∧ w.rangeAt g (off + i * 3) y.cells) ∧ (y.path.size ≤ maxLen ∧ y.data.length ≤ maxLen) ∧ By w (.slice y.a y.data.length y.c) y.data := fun i hi => by
      obtain ⟨cs, hc, ht⟩ := hx i (by rw [hmm]; split <;> omega)
      rw [cellsFile] at hc
      obtain ⟨b, off, e, hr, hlen⟩ := cells_atA hc (hsp0 (by omega))
      obtain ⟨c0, c1, c2, rfl⟩ : ∃ c0 c1 c2, cs = [c0, c1, c2] := by
        match cs, hlen with
        | [c0, c1, c2], _ => exact ⟨c0, c1, c2, rfl⟩
      obtain ⟨y0, y1, y2, n', _, hcl, t0, t1, t2⟩ := Go.Deep.trod_struct3 Tryz.underlying51 ht
      simp only [cellsStr, cellsBool, cellsBy, List.drop_zero, List.drop_succ_cons, List.take_succ_cons, List.take_zero] at t0 t1 t2
      obtain ⟨s1, e0, _, w0⟩ := DataW.trod_string Tryz.underlying9 t0
      obtain ⟨κ, e1, _⟩ := DataW.trod_bool Tryz.underlying4 t1
      obtain ⟨zs, hby⟩ := open_byA t2
      injection e0 with e0 _; injection e1 with e1 _
      subst e0 e1
      obtain ⟨va, vc, hv, hvl, hvm⟩ := hby.2.2
      subst hv
      exact ⟨⟨s1, κ, va, vc, zs⟩, ⟨b, off, by rw [e], hr⟩, ⟨w0, by show zs.length ≤ maxLen; omega⟩, hby⟩
    obtain ⟨l, hl1, hl2⟩ := choose_listA len each
    refine ⟨some ad, l, cp, by rw [hl1], fun i hi => ?_, by omega, fun n hn => ?_, fun n hn => ?_, by omega⟩
    · have hi' : i < l.length := by simpa using hi
      rw [List.getElem_map]
      exact (hl2 i hi').1
    · obtain ⟨i, hi, rfl⟩ := List.getElem_of_mem hn
      exact (hl2 i hi).2.1
    · obtain ⟨i, hi, rfl⟩ := List.getElem_of_mem hn
      exact (hl2 i hi).2.2
end
/-- A package that came in by value. -/
theorem open_pkg {H : Type} {enc : TypeId × Value → H} {W : World} {base b0 : Nat} {held : Bool} {r : Reach} {v : Value} {d : DataW H} {p : List MemPlace} (hv : Value.okWide Tryz.prog W r b0 26 v) (h : DataW.Trod enc Tryz.prog W base (fun _ => true) held 26 v d p) :
    ∃ (D : PkgD) (P : PkL), v = .agg #[.string D.name, .string D.ver, .slice P.an D.needs.length P.cn, .slice P.ac D.confs.length P.cc, .slice P.af D.files.length P.cf, .slice P.au D.units.length P.cu] ∧ PkAt W D P ∧ RoomD D := by
  have hv' : ∃ cs, v = .agg cs ∧ cs.size = Tryz.prog.cellsOf 26 ∧ Row.okWide Tryz.prog W r b0 26 cs := by
    unfold Value.okWide at hv
    rw [Tryz.underlying26] at hv
    exact hv
  obtain ⟨cs, rfl, hs, _⟩ := hv'
  obtain ⟨fuel, hf⟩ := h
  rw [cellsPkg] at hs
  obtain ⟨c0, c1, c2, c3, c4, c5, rfl⟩ : ∃ c0 c1 c2 c3 c4 c5, cs = #[c0, c1, c2, c3, c4, c5] := by
    obtain ⟨l⟩ := cs
    match l, hs with
    | [c0, c1, c2, c3, c4, c5], _ => exact ⟨c0, c1, c2, c3, c4, c5, rfl⟩
  have hf' : DataW.trod enc Tryz.prog W base (fun _ => true) held fuel 26 [c0, c1, c2, c3, c4, c5] = some (d, p) := hf
  obtain ⟨y0, y1, y2, y3, y4, y5, n', hcl, t0, t1, t2, t3, t4, t5⟩ := trod_struct6 Tryz.underlying26 hf'
  simp only [cellsStr, cellsNeeds, cellsStrs, cellsFiles, List.drop_zero, List.drop_succ_cons, List.take_succ_cons, List.take_zero] at t0 t1 t2 t3 t4 t5
  obtain ⟨s1, e0, _, w0⟩ := DataW.trod_string Tryz.underlying9 t0
  obtain ⟨s2, e1, _, w1⟩ := DataW.trod_string Tryz.underlying9 t1
  injection e0 with e0 _; injection e1 with e1 _
  subst e0 e1
  obtain ⟨an, ns, cn, rfl, n1, n2, n3⟩ := open_needs t2
  obtain ⟨ac, ks, cc, rfl, k1, k2, k3⟩ := open_strs t3
  obtain ⟨af, fs, cf, rfl, f1, f2, f3, f4, f5⟩ := open_files t4
  obtain ⟨au, us, cu, rfl, u1, u2, u3⟩ := open_strs t5
  exact ⟨⟨s1, s2, ns, ks, fs, us⟩, ⟨an, cn, ac, cc, af, cf, au, cu⟩, rfl, ⟨n1, k1, f1, u1, f4, f5⟩, ⟨w0, w1, n2, n3, k2, k3, f2, f3, u2, u3⟩⟩
theorem u8_wf {n : Int} (h : (Lit.int .u8 n).wf = true) : 0 ≤ n ∧ n < 256 := by
  have h1 : IntKind.u8.min = 0 := rfl
  have h2 : IntKind.u8.max = 255 := rfl
  simp only [Lit.wf, Bool.and_eq_true, decide_eq_true_eq] at h
  omega
/-- An array of four bytes that came in by value. -/
theorem open_fourA {H : Type} {enc : TypeId × Value → H} {W : World} {base b0 : Nat} {spare : Nat → Bool} {held : Bool} {r : Reach} {v : Value} {d : DataW H} {p : List MemPlace} (hv : Value.okWide Tryz.prog W r b0 48 v) (h : DataW.Trod enc Tryz.prog W base spare held 48 v d p) :
    ∃ a b c e : Int, v = .agg #[.int .u8 a, .int .u8 b, .int .u8 c, .int .u8 e] ∧ (0 ≤ a ∧ a < 256) ∧ (0 ≤ b ∧ b < 256) ∧ (0 ≤ c ∧ c < 256) ∧ (0 ≤ e ∧ e < 256) := by
  have hv' : ∃ cs, v = .agg cs ∧ cs.size = Tryz.prog.cellsOf 48 ∧ Row.okWide Tryz.prog W r b0 48 cs := by
    unfold Value.okWide at hv
    rw [Tryz.underlying48] at hv
    exact hv
  obtain ⟨cs, rfl, hs, _⟩ := hv'
  obtain ⟨fuel, hf⟩ := h
  obtain ⟨xs, m, rfl, _, hl, hx, hi⟩ := DataW.trod_array Tryz.underlying48 hf
  rw [cellsFour] at hs
  obtain ⟨c0, c1, c2, c3, rfl⟩ : ∃ c0 c1 c2 c3, cs = #[c0, c1, c2, c3] := by
    obtain ⟨l⟩ := cs
    match l, hs with
    | [c0, c1, c2, c3], _ => exact ⟨c0, c1, c2, c3, rfl⟩
  have one : ∀ i c, i < 4 → ([c0, c1, c2, c3].drop (i * 1)).take 1 = [c] → ∃ n : Int, c = .int .u8 n ∧ (0 ≤ n ∧ n < 256) := by
    intro i c hi4 he
    have h := hi i hi4
    rw [cellsU8] at h
    have he' : List.take 1 (List.drop (i * 1) (Value.agg #[c0, c1, c2, c3]).cells.toList) = [c] := he
    rw [he'] at h
    have hxi : ∃ x, xs[i]? = some x := ⟨xs[i], List.getElem?_eq_getElem (by omega)⟩
    obtain ⟨x, hx'⟩ := hxi
    rw [hx'] at h
    obtain ⟨n, hc, _, hw⟩ := DataW.trod_int Tryz.underlying5 h
    simp at hc
    exact ⟨n, hc, u8_wf hw⟩
  obtain ⟨a, rfl, ha⟩ := one 0 c0 (by decide) rfl
  obtain ⟨b, rfl, hb⟩ := one 1 c1 (by decide) rfl
  obtain ⟨c, rfl, hc⟩ := one 2 c2 (by decide) rfl
  obtain ⟨e, rfl, he⟩ := one 3 c3 (by decide) rfl
  exact ⟨a, b, c, e, rfl, ha, hb, hc, he⟩
end Go.Proofs.YtihnjhigemhknaaGreatDoor
end

/- The document's own answer for the sum is the program's, of whatever bytes. -/
section
namespace Go.Proofs.YtihnjhigemhknaaGreatDoor.Cr
set_option linter.unusedVariables false
set_option linter.unusedSimpArgs false
open Go.RowKit

theorem poly_bit : ∀ i, i < 32 → at0 poly (i + 1) = b2i ((3988292384#32).getLsbD i) := by decide +kernel
theorem b2i_add (a b : Bool) : (b2i a + b2i b).tmod 2 = b2i (a ^^ b) := by cases a <;> cases b <;> rfl
theorem b2i_one (a : Bool) : b2i a = 1 ↔ a = true := by cases a <;> simp [b2i]
theorem b2i_i2b (x : Int) (h : x = 0 ∨ x = 1) : b2i (i2b x) = x := by rcases h with rfl | rfl <;> rfl
theorem ones_bit (i : Nat) (hi : i < 32) : ones.getLsbD i = true := by unfold ones; rw [BitVec.getLsbD_allOnes]; exact decide_eq_true hi

structure Inv (M D : List Int) (s : BitVec 32) (k : Nat) : Prop where
  len : D.length = M.length
  low : ∀ i, i < 32 → at0 D (k + i) = b2i (s.getLsbD i ^^ i2b (at0 M (k + i)))
  high : ∀ i, k + 32 ≤ i → at0 D i = at0 M i

theorem Inv.start (M : List Int) (hM : Bits M) (hl : 32 ≤ M.length) : Inv M (flipTo M 32) ones 0 where
  len := flipTo_length _ _
  low := fun i hi => by
    rw [Nat.zero_add, at0_flipTo _ _ _ hl, if_pos hi, ones_bit i hi]
    rcases hM i with h | h <;> rw [h] <;> rfl
  high := fun i hi => by rw [at0_flipTo _ _ _ hl, if_neg (by omega)]

theorem Inv.next {M D : List Int} {s : BitVec 32} {k : Nat} (h : Inv M D s k) (hM : Bits M) (hk : k + 33 ≤ M.length) :
    Inv M (if at0 D k = 1 then addTo D k 33 else D) (sb s (at0 M k)) (k + 1) := by
  have h0 : at0 D k = b2i (s.getLsbD 0 ^^ i2b (at0 M k)) := by have := h.low 0 (by decide); simpa using this
  have hw : ∀ i, i < 32 → at0 D (k + (i + 1)) = b2i (s.getLsbD (i + 1) ^^ i2b (at0 M (k + (i + 1)))) := by
    intro i hi
    by_cases h31 : i + 1 < 32
    · exact h.low (i + 1) h31
    · rw [h.high _ (by omega), BitVec.getLsbD_of_ge _ _ (by omega), Bool.false_xor, b2i_i2b _ (hM _)]
  have hlen := h.len
  cases ht : (s.getLsbD 0 ^^ i2b (at0 M k))
  · rw [if_neg (by rw [h0, ht]; decide)]
    refine ⟨hlen, fun i hi => ?_, fun i hi => h.high i (by omega)⟩
    have e := hw i hi
    rw [sb_bit _ _ _ hi, ht, Bool.false_and, Bool.xor_false]
    rw [show k + 1 + i = k + (i + 1) from by omega]
    exact e
  · rw [if_pos (by rw [h0, ht]; decide)]
    refine ⟨by rw [addTo_length, hlen], fun i hi => ?_, fun i hi => ?_⟩
    · rw [sb_bit _ _ _ hi, ht, Bool.true_and]
      rw [show k + 1 + i = k + (i + 1) from by omega]
      rw [at0_addTo _ _ _ _ (by omega), if_pos ⟨by omega, by omega⟩, hw i hi, show k + (i + 1) - k = i + 1 from by omega, poly_bit i hi, b2i_add]
      congr 1
      exact xor_swap _ _ _
    · rw [at0_addTo _ _ _ _ (by omega), if_neg (by omega)]
      exact h.high i (by omega)

theorem ser_take (s : BitVec 32) (M : List Int) (k : Nat) (h : k < M.length) : ser s (M.take (k + 1)) = sb (ser s (M.take k)) (at0 M k) := by
  rw [List.take_add_one, List.getElem?_eq_getElem h]
  unfold ser
  rw [List.foldl_append]
  show sb _ _ = sb _ _
  unfold at0
  rw [List.getD_eq_getElem?_getD, List.getElem?_eq_getElem h]
  rfl

theorem Inv.all (M : List Int) (hM : Bits M) (n : Nat) (hl : M.length = n + 32) (k : Nat) (hk : k ≤ n) : Inv M (divTo (flipTo M 32) k) (ser ones (M.take k)) k := by
  induction k with
  | zero => exact Inv.start M hM (by omega)
  | succ k ih =>
    rw [ser_take _ _ _ (by omega), divTo]
    exact (ih (by omega)).next hM (by omega)

theorem out_bit (D : List Int) (n : Nat) (s : BitVec 32) (h : ∀ i, i < 32 → at0 D (n + i) = b2i (s.getLsbD i)) (j : Nat) (hj : j ≤ 32) :
    ∀ i, (outTo D n j).getLsbD i = (decide (i < j) && !s.getLsbD i) := by
  induction j with
  | zero => intro i; simp [outTo]
  | succ j ih =>
    have ih := ih (by omega)
    intro i
    have e : (BitVec.ofInt 32 (1 - at0 D (n + j)) <<< j) = if s.getLsbD j then 0#32 else 1#32 <<< j := by
      rw [h j (by omega)]
      cases s.getLsbD j
      · rfl
      · exact BitVec.zero_shiftLeft _
    have hz : outTo D n j &&& (if s.getLsbD j then 0#32 else 1#32 <<< j) = 0#32 := by
      apply BitVec.eq_of_getLsbD_eq
      intro q hq
      rw [BitVec.getLsbD_and, ih q]
      cases s.getLsbD j
      · rw [if_neg (by decide), BitVec.getLsbD_shiftLeft]
        by_cases hqj : q < j
        · simp [hqj]
        · simp [hqj]
      · simp
    rw [outTo, e, BitVec.add_eq_or_of_and_eq_zero _ _ hz, BitVec.getLsbD_or, ih i]
    by_cases hij : i = j
    · subst hij
      cases s.getLsbD i
      · rw [if_neg (by decide), BitVec.getLsbD_shiftLeft]; simp; omega
      · simp
    · have hx : (if s.getLsbD j then 0#32 else 1#32 <<< j : BitVec 32).getLsbD i = false := by
        cases s.getLsbD j
        · rw [if_neg (by decide), BitVec.getLsbD_shiftLeft]
          by_cases h1 : i < j
          · simp [h1]
          · have : i - j ≠ 0 := by omega
            simp [this]
        · simp
      rw [hx, Bool.or_false]
      by_cases h1 : i < j
      · rw [decide_eq_true h1, decide_eq_true (by omega : i < j + 1)]
      · rw [decide_eq_false h1, decide_eq_false (by omega : ¬ i < j + 1)]

theorem ref_crc (zs : List Int) (hz : ∀ x ∈ zs, 0 ≤ x ∧ x < 256) : refSum zs = crc zs := by
  have hl : (allBits zs ++ List.replicate 32 0).length = 8 * zs.length + 32 := by rw [List.length_append, allBits_length, List.length_replicate]
  have h := Inv.all _ (Bits.all zs hz) (8 * zs.length) hl (8 * zs.length) (Nat.le_refl _)
  have e : (allBits zs ++ List.replicate 32 (0 : Int)).take (8 * zs.length) = allBits zs := by
    rw [← allBits_length zs, List.take_left']
    rfl
  rw [e] at h
  have hlow : ∀ i, i < 32 → at0 (divTo (flipTo (allBits zs ++ List.replicate 32 0) 32) (8 * zs.length)) (8 * zs.length + i) = b2i ((ser ones (allBits zs)).getLsbD i) := by
    intro i hi
    rw [h.low i hi]
    have : at0 (allBits zs ++ List.replicate 32 0) (8 * zs.length + i) = 0 := by
      rw [at0_app, allBits_length, if_neg (by omega)]
      unfold at0
      rw [List.getD_eq_getElem?_getD, List.getElem?_replicate]
      split <;> rfl
    rw [this]
    have : i2b 0 = false := rfl
    rw [this, Bool.xor_false]
  unfold refSum crc
  rw [rest_ser _ _ hz]
  apply BitVec.eq_of_getLsbD_eq
  intro i hi
  rw [out_bit _ _ _ hlow 32 (Nat.le_refl _), BitVec.getLsbD_not]
end Go.Proofs.YtihnjhigemhknaaGreatDoor.Cr
end

/- The document's own answer for the sum, as it is written in Go: what its loops come to. -/
section
namespace Go.Proofs.YtihnjhigemhknaaGreatDoor.Cr
set_option linter.unusedVariables false
set_option linter.unusedSimpArgs false
open Go.RowKit

theorem info3 : (Tryz.prog.info? 3).map (fun i => (i.zero, i.size, i.bytes)) = some (some (.int .i64 0), 1, 8) := by kernel_rfl

abbrev ints (l : List Int) : List Value := l.map (Value.int .i64)

/-- One number more behind a row of the call's own. -/
theorem own_snoc {B : Nat} {w wr w1 : World} {u v' : Value} {L : List Int} {y : Int} {o : Obj} (hown' : w1.ownsRow B 3 1 v' (L.length + 1) (ints L ++ [.int .i64 y])) (hgrow : (wr.alloc o).grownBy w1 u.ownBlock)
    (hown : wr.ownsRow B 3 1 u L.length (ints L)) (hnx : Below B w wr) (hB : B ≤ w.heap.size := by exact Nat.le_refl _) : w1.ownsRow B 3 1 v' (L ++ [y]).length (ints (L ++ [y])) ∧ Below B w w1 := by
  have := hnx.size
  exact ⟨by simpa [ints] using hown', (hnx.alloc (by omega) o).grown hgrow (by simp; omega) fun k hk => (hown.lt k hk).1⟩
theorem own_cell {B b off : Nat} {wr w1 : World} {u x : Value} {n : Nat} {L : List Value} {o : Obj} (hgrow : (wr.alloc o).grownBy w1 u.ownBlock)
    (hown : wr.ownsRow B 3 1 u n L) (hc : wr.cell? ⟨b, off, none⟩ = some x) (hb : b < B) : w1.cell? ⟨b, off, none⟩ = some x := by
  have hlt := World.block_lt_of_cell? wr _ hc
  refine hgrow.cell ((World.cell?_alloc_past _ _ _ hlt).trans hc) fun h => ?_
  have := (hown.lt b h.symm).1
  omega

/-- A number of such a row is read; one is written. -/
theorem own_at {B g cap N : Nat} {wr : World} {L : List Int} (hown : wr.ownsRow B 3 1 (.slice (some ⟨g, 0, none⟩) N cap) N (ints L)) (j : Nat) (hj : j < N) : wr.cell? ⟨g, j, none⟩ = some (.int .i64 (at0 L j)) := by
  have hl : L.length = N := by have := hown.1; simpa [ints] using this
  rw [hown.cellAt j (by omega)]
  unfold at0
  simp [ints, List.getD_eq_getElem?_getD, List.getElem?_eq_getElem (show j < L.length by omega)]
theorem own_set {B g cap N : Nat} {w wr : World} {L : List Int} (hown : wr.ownsRow B 3 1 (.slice (some ⟨g, 0, none⟩) N cap) N (ints L)) (hnx : Below B w wr) (hg : B ≤ g) (j : Nat) (y : Int) :
    (wr.setCell ⟨g, j, none⟩ (.int .i64 y)).ownsRow B 3 1 (.slice (some ⟨g, 0, none⟩) N cap) N (ints (L.set j y)) ∧ Below B w (wr.setCell ⟨g, j, none⟩ (.int .i64 y)) := by
  have h := (hown.stored j (.int .i64 y)).1
  refine ⟨?_, hnx.setCell hg _⟩
  have e : (ints L).set j (.int .i64 y) = ints (L.set j y) := by simp [ints, List.map_set]
  rw [e] at h
  exact h

/-- The polynomial's row. -/
def PolyAt (w : World) (P : Nat) : Prop := ∀ q, q < 33 → w.cell? ⟨P, q, none⟩ = some (.int .i64 (at0 poly q))
theorem polyAt_new (w : World) : PolyAt (w.alloc (.cells (ints poly).toArray 3)) w.heap.size := by
  intro q hq
  rw [World.cell?_alloc_new]
  have : q < poly.length := hq
  unfold at0
  simp [ints, List.getD_eq_getElem?_getD, List.getElem?_eq_getElem this]

theorem PolyAt.setCell {w : World} {P g : Nat} (h : PolyAt w P) (hg : g ≠ P) (j : Nat) (v : Value) : PolyAt (w.setCell ⟨g, j, none⟩ v) P := fun q hq => by
  rw [World.cell?_setCell_other w ⟨g, j, none⟩ ⟨P, q, none⟩ v (by intro e; injection e with e1; exact hg e1)]
  exact h q hq

theorem out32 (s : BitVec 32) (x : Int) (j : Nat) (h0 : 0 ≤ x) (h1 : x ≤ 1) : ((s.toNat : Int) + (1 - x) * 2 ^ j % 4294967296) % 4294967296 = ((s + BitVec.ofInt 32 (1 - x) <<< j).toNat : Int) := by
  have e : ((BitVec.ofInt 32 (1 - x)).toNat : Int) = 1 - x := toNat_ofInt _ (by omega) (by omega)
  generalize BitVec.ofInt 32 (1 - x) = b at *
  rw [BitVec.toNat_add, BitVec.toNat_shiftLeft, Nat.shiftLeft_eq, ← e]
  simp

set_option maxHeartbeats 1600000 in
set_option maxRecDepth 100000 in
theorem ref_any (v : Value) (zs : List Int) (w : World) (hv : IsBytes w v zs) (hn : zs.length ≤ 100000000) :
    Calls Tryz.prog 15 #[v] w fun e w' => e = .returned (.int .u32 ((crc zs).toNat : Int)) ∧ Below w.heap.size w w' := by
  obtain ⟨a, cap, rfl, _, hz, hwz⟩ := hv
  have HS : Hid (outTo (divTo (flipTo (allBits zs ++ List.replicate 32 0) 32) (8 * zs.length)) (8 * zs.length) 32 = crc zs) := ref_crc zs hwz
  obtain ⟨i0, hi, hz0, hz1, hz2⟩ := info_parts info3
  go_enter Tryz.func15, Tryz.ntmps15
  go_wp2_with fail
  go_loopw [3, 4] (fun s i wr => ∃ k : Nat, k ≤ zs.length ∧ i = .int .i64 k ∧ wr.ownsRow w.heap.size 3 1 s (allBits (zs.take k)).length (ints (allBits (zs.take k))) ∧ Below w.heap.size w wr) (fun _ i _ => zs.length - (intOf i).toNat)
  case atStart => exact ⟨0, Nat.zero_le _, rfl, World.ownsRow_made w #[] 0 (Nat.le_refl _) (Nat.zero_le _) rfl, (Below.refl _ _).alloc (Nat.le_refl _) _⟩
  case round =>
    obtain ⟨k, hk, rfl, hown, hnx⟩ := hrel
    by_cases hlt : k < zs.length
    · obtain ⟨b, off, rfl, hcz⟩ := hz (by intro h; rw [h] at hlt; simp at hlt)
      have hb : b < w.heap.size := World.block_lt_of_cell? w _ (hcz k hlt)
      have hx := hwz _ (List.getElem_mem hlt)
      have hcx := (hnx.cell (p := ⟨b, off + k, none⟩) hb).trans (hcz k hlt)
      have hgd : zs.getD k 0 = zs[k] := by simp [List.getD, List.getElem?_eq_getElem hlt]
      rw [hgd] at hcx
      have HF : Hid (allBits (zs.take (k + 1)) = allBits (zs.take k) ++ bitsTo zs[k] 8) := allBits_take zs k hlt
      have HL : Hid ((allBits (zs.take k)).length = 8 * k) := by have := allBits_length (zs.take k); rw [List.length_take, Nat.min_eq_left hk] at this; exact this
      generalize allBits (zs.take k) = X at *
      generalize zs[k] = x at *
      clear hcz hz hwz hgd
      obtain ⟨hx0, hx1⟩ := hx
      go_wp2_with fail
      go_loopw [3, 5] (fun s i wr => ∃ j : Nat, j ≤ 8 ∧ i = .int .i64 j ∧ wr.ownsRow w.heap.size 3 1 s (X ++ bitsTo x j).length (ints (X ++ bitsTo x j)) ∧ wr.cell? ⟨b, off + k, none⟩ = some (.int .u8 x) ∧ Below w.heap.size w wr) (fun _ i _ => 8 - (intOf i).toNat)
      case atStart => exact ⟨0, by omega, rfl, by simpa [bitsTo] using hown, hcx, hnx⟩
      case round =>
        obtain ⟨j, hj, rfl, hown, hcx, hnx⟩ := hrel
        by_cases hlj : j < 8
        · have HY : Hid (X ++ bitsTo x (j + 1) = X ++ bitsTo x j ++ [bitAt x j]) := by show _ = _; rw [List.append_assoc, ← bitsTo_succ]
          have HYL : Hid ((X ++ bitsTo x j).length = 8 * k + j) := by show _ = _; rw [List.length_append, HL.out, bitsTo_length]
          generalize X ++ bitsTo x j = Y at *
          go_wp2_with (at_builtin; refine wpList_append_own _ rfl (.tmp 24) (.tmp 34) 71 rfl w.heap.size 3 i0 (.int .i64 0) 1 8 Tryz.underlying71 hi hz0 hz1 hz2 rfl (by decide) _ _ _ rfl (hown.alloc _) ⟨wr.heap.size, 0, none⟩ 1 1 [.int .i64 (bitAt x j)] rfl rfl ?c1 ?c2 ?c3 ?c4 ?c5 ?_)
          case c1 =>
            intro j u hj
            match j, hj with
            | 0, hj => simp at hj; subst hj; simp [Addr.add, bitAt]
          case c2 => intro u hu; simp at hu; subst hu; rfl
          case c3 => have := HYL.out; unfold maxLen; omega
          case c4 => have := HYL.out; omega
          case c5 => have := hnx.size; simp; omega
          intro v' w1 hown' hgrow _
          have hR := own_snoc hown' hgrow hown hnx
          have hcy := own_cell hgrow hown hcx (by omega)
          have hs := hnx.size
          clear hgrow hown' hown hcx hnx
          obtain ⟨hown', hnx'⟩ := hR
          rw [← HY.out] at hown'
          go_wp2_with fail
          go_roundw
          case rel => exact ⟨j + 1, by omega, by go_num, hown', hcy, hnx'⟩
          case measure => simp [intOf]; omega
        · obtain rfl : j = 8 := by omega
          rw [← HF.out] at hown
          go_wp2_with fail
          go_roundw
          case rel => exact ⟨k + 1, by omega, by go_num, hown, hnx⟩
          case measure => simp [intOf]; omega
    · obtain rfl : k = zs.length := by omega
      rw [List.take_length] at hown
      have HL : Hid ((allBits zs).length = 8 * zs.length) := allBits_length zs
      have HBX := Lib.hid (Bits.all zs hwz)
      generalize allBits zs = X at *
      clear hz
      go_wp2_with fail
      go_loopw [3, 6] (fun s i wr => ∃ j : Nat, j ≤ 32 ∧ i = .int .i64 j ∧ wr.ownsRow w.heap.size 3 1 s (X ++ List.replicate j 0).length (ints (X ++ List.replicate j 0)) ∧ Below w.heap.size w wr) (fun _ i _ => 32 - (intOf i).toNat)
      case atStart => exact ⟨0, by omega, rfl, by simpa using hown, hnx⟩
      case round =>
        obtain ⟨j, hj, rfl, hown, hnx⟩ := hrel
        by_cases hlj : j < 32
        · have HY : Hid (X ++ List.replicate (j + 1) 0 = X ++ List.replicate j 0 ++ [(0 : Int)]) := by show _ = _; rw [List.append_assoc, ← List.replicate_succ']
          have HYL : Hid ((X ++ List.replicate j (0 : Int)).length = 8 * zs.length + j) := by show _ = _; rw [List.length_append, HL.out, List.length_replicate]
          generalize X ++ List.replicate j (0 : Int) = Y at *
          go_wp2_with (at_builtin; refine wpList_append_own _ rfl (.tmp 40) (.tmp 41) 71 rfl w.heap.size 3 i0 (.int .i64 0) 1 8 Tryz.underlying71 hi hz0 hz1 hz2 rfl (by decide) _ _ _ rfl (hown.alloc _) ⟨wr.heap.size, 0, none⟩ 1 1 [.int .i64 0] rfl rfl ?d1 ?d2 ?d3 ?d4 ?d5 ?_)
          case d1 =>
            intro j u hj
            match j, hj with
            | 0, hj => simp at hj; subst hj; simp [Addr.add]
          case d2 => intro u hu; simp at hu; subst hu; rfl
          case d3 => have := HYL.out; unfold maxLen; omega
          case d4 => have := HYL.out; omega
          case d5 => have := hnx.size; simp; omega
          intro v' w1 hown' hgrow _
          have hR := own_snoc hown' hgrow hown hnx
          have hs := hnx.size
          clear hgrow hown' hown hnx
          obtain ⟨hown', hnx'⟩ := hR
          rw [← HY.out] at hown'
          go_wp2_with fail
          go_roundw
          case rel => exact ⟨j + 1, by omega, by go_num, hown', hnx'⟩
          case measure => simp [intOf]; omega
        · obtain rfl : j = 32 := by omega
          have HB : Hid (Bits (X ++ List.replicate 32 0)) := HBX
          have HN : Hid ((X ++ List.replicate 32 (0 : Int)).length = 8 * zs.length + 32) := by show _ = _; rw [List.length_append, HL.out, List.length_replicate]
          generalize X ++ List.replicate 32 (0 : Int) = M at *
          obtain ⟨g, cp, rfl, hg, hgs⟩ := hown.form (by have := HN.out; omega)
          rw [HN.out] at hown
          rw [HN.out]
          go_wp2_with fail
          go_loopw [7] (fun i wr => ∃ j : Nat, j ≤ 32 ∧ i = .int .i64 j ∧ wr.ownsRow w.heap.size 3 1 (.slice (some ⟨g, 0, none⟩) (8 * zs.length + 32) cp) (8 * zs.length + 32) (ints (flipTo M j)) ∧ Below w.heap.size w wr) (fun i _ => 32 - (intOf i).toNat)
          case atStart => exact ⟨0, by omega, rfl, hown, hnx⟩
          case round =>
            obtain ⟨j, hj, rfl, hown, hnx⟩ := hrel
            by_cases hlj : j < 32
            · have hc := own_at hown j (by omega)
              have hf := hown.frozenAt j
              have hR := own_set hown hnx hg j (1 - at0 (flipTo M j) j)
              have hb := HB.out.flipTo j j
              have H1 : Hid (flipTo M (j + 1) = (flipTo M j).set j (1 - at0 (flipTo M j) j)) := rfl
              generalize at0 (flipTo M j) j = x at *
              have hb0 : 0 ≤ x := by omega
              have hb1 : x ≤ 1 := by omega
              have HR := Lib.hid hR
              clear hR hb hown
              go_wp2_with fail
              go_roundw
              case rel => exact ⟨j + 1, by omega, by go_num, by rw [H1.out]; exact HR.out.1, HR.out.2⟩
              case measure => simp [intOf]; omega
            · obtain rfl : j = 32 := by omega
              have HB0 := Lib.hid (HB.out.flipTo 32)
              generalize flipTo M 32 = L at *
              have hgs := (hown.lt g rfl).2
              have hnx0 := hnx.size
              obtain ⟨W1, rfl⟩ : ∃ W1 : World, W1 = wr := ⟨_, rfl⟩
              go_wp2_with fail
              go_loopw [9, 10] (fun i _ wx => ∃ k : Nat, k ≤ 8 * zs.length ∧ i = .int .i64 k ∧ wx.ownsRow w.heap.size 3 1 (.slice (some ⟨g, 0, none⟩) (8 * zs.length + 32) cp) (8 * zs.length + 32) (ints (divTo L k)) ∧ PolyAt wx W1.heap.size ∧ Below w.heap.size w wx) (fun i _ _ => 8 * zs.length - (intOf i).toNat)
              case atStart => exact ⟨0, by omega, rfl, hown.alloc _, polyAt_new _, hnx.alloc (by omega) _⟩
              case round =>
                obtain ⟨k, hk, rfl, hown, hpo, hnx⟩ := hrel
                by_cases hlk : k < 8 * zs.length
                · have hc := own_at hown k (by omega)
                  have HBk := Lib.hid (HB0.out.divTo k)
                  have HD : Hid (divTo L (k + 1) = if at0 (divTo L k) k = 1 then addTo (divTo L k) k 33 else divTo L k) := rfl
                  generalize divTo L k = D at *
                  by_cases h1 : at0 D k = 1
                  · rw [if_pos h1] at HD
                    have h1' : (at0 D k == 1) = true := by rw [h1]; rfl
                    have H1 := Lib.hid h1
                    clear h1
                    go_wp2_with fail
                    go_loopw [10] (fun i wx => ∃ j : Nat, j ≤ 33 ∧ i = .int .i64 j ∧ wx.ownsRow w.heap.size 3 1 (.slice (some ⟨g, 0, none⟩) (8 * zs.length + 32) cp) (8 * zs.length + 32) (ints (addTo D k j)) ∧ PolyAt wx W1.heap.size ∧ Below w.heap.size w wx) (fun i _ => 33 - (intOf i).toNat)
                    case atStart => exact ⟨0, by omega, rfl, hown, hpo, hnx⟩
                    case round =>
                      obtain ⟨j, hj, rfl, hown, hpo, hnx⟩ := hrel
                      by_cases hlj : j < 33
                      · have hc := own_at hown (k + j) (by omega)
                        have hf := hown.frozenAt (k + j)
                        have hp := hpo j hlj
                        have hR := own_set hown hnx hg (k + j) ((at0 (addTo D k j) (k + j) + at0 poly j).tmod 2)
                        have hP := hpo.setCell (g := g) (by omega) (k + j) (.int .i64 ((at0 (addTo D k j) (k + j) + at0 poly j).tmod 2))
                        have hb := HBk.out.addTo k j (k + j)
                        have hq := bits_poly j
                        have HJ : Hid (addTo D k (j + 1) = (addTo D k j).set (k + j) ((at0 (addTo D k j) (k + j) + at0 poly j).tmod 2)) := rfl
                        generalize at0 (addTo D k j) (k + j) = x at *
                        generalize at0 poly j = y at *
                        have hb0 : 0 ≤ x := by omega
                        have hb1 : x ≤ 1 := by omega
                        have hq0 : 0 ≤ y := by omega
                        have hq1 : y ≤ 1 := by omega
                        have HR := Lib.hid hR
                        have HP := Lib.hid hP
                        rw [Int.tmod_eq_emod_of_nonneg (by omega)] at HJ HR HP
                        clear hR hP hb hq hown hpo
                        go_wp2_with fail
                        have e1 : IntKind.i64.wrap ((k : Int) + (j : Int)) = (k : Int) + (j : Int) := IntWalk.i64_in _ (by omega)
                        have e2 : (0 : Int) ≤ (k : Int) + (j : Int) := by omega
                        have e3 : ((k : Int) + (j : Int)).toNat = k + j := by omega
                        have e4 : (k : Int) + (j : Int) < 8 * (zs.length : Int) + 32 := by omega
                        have e5 : IntKind.i64.wrap (x + y) = x + y := IntWalk.i64_in _ (by omega)
                        go_region
                        all_goals (clear e1 e2 e3 e4 e5)
                        all_goals go_wp2_with fail
                        all_goals go_roundw
                        case rel => exact ⟨j + 1, by omega, by go_num, by rw [HJ.out]; exact HR.out.1.drew, HP.out, HR.out.2.drew⟩
                        case measure => simp [intOf]; omega
                      · obtain rfl : j = 33 := by omega
                        rw [← HD.out] at hown
                        go_wp2_with fail
                        go_roundw
                        case rel => exact ⟨k + 1, by omega, by go_num, hown, hpo, hnx⟩
                        case measure => simp [intOf]; omega
                  · rw [if_neg h1] at HD
                    have h1' : (at0 D k == 1) = false := by simpa using h1
                    clear h1
                    go_wp2_with fail
                    go_roundw
                    case rel => exact ⟨k + 1, by omega, by go_num, by rw [HD.out]; exact hown, hpo, hnx⟩
                    case measure => simp [intOf]; omega
                · obtain rfl : k = 8 * zs.length := by omega
                  have HBD := Lib.hid (HB0.out.divTo (8 * zs.length))
                  generalize divTo L (8 * zs.length) = D at *
                  go_wp2_with fail
                  go_loop [11, 12] (fun s i => ∃ j : Nat, j ≤ 32 ∧ i = .int .i64 j ∧ s = .int .u32 ((outTo D (8 * zs.length) j).toNat : Int)) (fun _ i => 32 - (intOf i).toNat)
                  case atStart => exact ⟨0, by omega, rfl, rfl⟩
                  case round =>
                    obtain ⟨j, hj, rfl, rfl⟩ := hrel
                    by_cases hlj : j < 32
                    · have hc := own_at hown (8 * zs.length + j) (by omega)
                      have hb := HBD.out (8 * zs.length + j)
                      generalize hx : at0 D (8 * zs.length + j) = x at *
                      have HX := Lib.hid hx
                      clear hx
                      have hb0 : 0 ≤ x := by omega
                      have hb1 : x ≤ 1 := by omega
                      clear hb
                      go_wp2_with fail
                      go_round
                      case rel => exact ⟨j + 1, by omega, by go_num, by rw [out32 _ _ _ hb0 hb1, ← HX.out]; rfl⟩
                      case measure => simp [intOf]; omega
                    · obtain rfl : j = 32 := by omega
                      go_wp2_with fail
                      go_ret
                      exact ⟨congrArg Ending.returned (u32_congr HS.out), hnx⟩
end Go.Proofs.YtihnjhigemhknaaGreatDoor.Cr
end
