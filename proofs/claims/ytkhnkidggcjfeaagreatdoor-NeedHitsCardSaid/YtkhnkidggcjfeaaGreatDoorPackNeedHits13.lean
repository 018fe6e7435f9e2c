/- Texts one behind the other, each in a section of its own: what calls make of memory, step by step. -/
import Derived.Test.YtkhnkidggcjfeaaGreatDoorPackNeedHits12
import Derived.Test.YtkhnkidggcjfeaaGreatDoorRows
import Derived.Deep.Slices
import Derived.Lib.SmallJoins
import Derived.WideShapes
import Derived.ProofKit
import Derived.Deep.RegionHeld3
import Derived.Test.YtkhnkidggcjfeaaGreatDoorChecked
import Derived.Sort.OwnSorted
import Derived.Lib.OwnBridge
import Derived.Lib.SliceRun
set_option linter.unusedVariables false
set_option linter.unusedSimpArgs false
set_option maxRecDepth 100000
section
namespace Go.Proofs.YtkhnkidggcjfeaaGreatDoor
open Go.RowKit
open Go.ChangeMaps (setBlock)
section
variable {w0 w w' : World} {S S' S1 : Blocks} {R L L' L1 M L0 : List Rw} {v c n d : Nat} {X X' X1 X2 : VX} {T T' Tc T1 : Tr} {Y Y' : Tab} {K K' : Blocks} {fv : Value} {acc : List Int}
theorem spawn_many (h : VT w0 K L0 v X Y w) (u : ByteArray) (a : Option Addr) (m c : Nat) (hm : 8 < m) : Calls Tryz.prog 55 #[.pointer (some ⟨Y.tb, 0, none⟩), .string u, .slice a m c] w fun e w' => e = .returned (.tuple #[.int .i64 0, .int .i64 22]) ∧ VT w0 K L0 v X Y w' := by
  have b8 : (8 : Int) < (m : Int) := by exact_mod_cast hm
  have H := Lib.hid h
  clear h hm
  go_enter Tryz.func55, Tryz.ntmps55
  go_wp2_with fail
  go_ret2
  exact ⟨rfl, H.out⟩
theorem spawn_full (h : VT w0 K L0 v X Y w) (u : ByteArray) (a : Option Addr) (m c : Nat) (hm : m ≤ 8) (hr : 32 ≤ Y.runs.length) : Calls Tryz.prog 55 #[.pointer (some ⟨Y.tb, 0, none⟩), .string u, .slice a m c] w fun e w' => e = .returned (.tuple #[.int .i64 0, .int .i64 7]) ∧ VT w0 K L0 v X Y w' := by
  obtain ⟨t0, t1, t2⟩ := h.tab
  have hl := h.len
  have b8 : ¬ (8 : Int) < (m : Int) := by omega
  have b32 : (32 : Int) ≤ (Y.runs.length : Int) := by exact_mod_cast hr
  have H := Lib.hid h
  clear h hm hr
  go_enter Tryz.func55, Tryz.ntmps55
  go_wp2_with fail
  go_ret2
  exact ⟨rfl, H.out⟩
set_option maxHeartbeats 2000000 in
theorem spawn_no {N : Nat} (h : VT w0 K L0 v X Y w) (hm : Mx w0) (ho : HeldOk N X) (u : ByteArray) (a : Option Addr) (ps : List ByteArray) (c : Nat) (hN : N + ps.length ≤ 1000000) (hsz : ∀ p ∈ ps, p.size ≤ maxLen) (hps : ∀ w' X', VT w0 K L0 v X' Y w' → ∀ i (h : i < ps.length), ∃ g o, a = some ⟨g, o, none⟩ ∧ w'.cell? ⟨g, o + i, none⟩ = some (.string ps[i]))
    (h8 : ps.length ≤ 8) (h32 : Y.runs.length < 32) {e0 : Int} {ids : List Int} (hH : holdFrom (X, []) (ps.map fun p => p.data.toList) = (e0, ids, X1)) (he : e0 ≠ 0) :
    Calls Tryz.prog 55 #[.pointer (some ⟨Y.tb, 0, none⟩), .string u, .slice a ps.length c] w fun e w' => e = .returned (.tuple #[.int .i64 0, .int .i64 e0]) ∧ VT w0 K L0 v X1 Y w' := by
  obtain ⟨t0, t1, t2⟩ := h.tab
  have hl := h.len
  have b8 : ¬ (8 : Int) < (ps.length : Int) := by omega
  have b32 : ¬ (32 : Int) ≤ (Y.runs.length : Int) := by omega
  have hne : (e0 != 0) = true := by simp [he]
  have hh := holds_any h hm ho a ps c hN hsz hps
  have hh2 : Calls Tryz.prog 91 #[.pointer (some ⟨Y.tb, 0, none⟩), .slice a ps.length c] w fun e w' => ∃ fv, e = .returned (.tuple #[fv, .int .i64 e0]) ∧ VTR w0 K L0 v X1 Y fv ids w' := hh.mono fun e w' k => by
    unfold HoldAt at k
    rw [hH] at k
    exact k
  clear h hh hps hsz hH ho h8 h32 hN
  go_enter Tryz.func55, Tryz.ntmps55
  go_wp2_with fail
  refine hh2.mono ?_
  rintro e w5 ⟨fv, rfl, h5⟩
  have H5 := Lib.hid h5.weak
  clear h5 hh2
  go_wp2_with fail
  go_ret2
  exact ⟨rfl, H5.out⟩
set_option maxHeartbeats 4000000 in
theorem spawn_yes {N : Nat} (h : VT w0 K L0 v X Y w) (hm : Mx w0) (ho : HeldOk N X) (u : ByteArray) (a : Option Addr) (ps : List ByteArray) (c : Nat) (hN : N + ps.length ≤ 1000000) (hsz : ∀ p ∈ ps, p.size ≤ maxLen) (hps : ∀ w' X', VT w0 K L0 v X' Y w' → ∀ i (h : i < ps.length), ∃ g o, a = some ⟨g, o, none⟩ ∧ w'.cell? ⟨g, o + i, none⟩ = some (.string ps[i]))
    (h8 : ps.length ≤ 8) (h32 : Y.runs.length < 32) {ids : List Int} (hH : holdFrom (X, []) (ps.map fun p => p.data.toList) = (0, ids, X1)) (hl1 : 0 ≤ Y.last ∧ Y.last ≤ 1000000000) (hfr : look Y.runs (Y.last + 1) = none) :
    Calls Tryz.prog 55 #[.pointer (some ⟨Y.tb, 0, none⟩), .string u, .slice a ps.length c] w fun e w' => e = .returned (.tuple #[.int .i64 (Y.last + 1), .int .i64 0]) ∧ ∃ b fv, VT w0 K L0 v X1 { Y with last := Y.last + 1, runs := put Y.runs (Y.last + 1) ⟨b, u, fv, ids, false⟩ } w' := by
  obtain ⟨t0, t1, t2⟩ := h.tab
  have hl := h.len
  have b8 : ¬ (8 : Int) < (ps.length : Int) := by omega
  have b32 : ¬ (32 : Int) ≤ (Y.runs.length : Int) := by omega
  have hh := holds_any h hm ho a ps c hN hsz hps
  have hh2 : Calls Tryz.prog 91 #[.pointer (some ⟨Y.tb, 0, none⟩), .slice a ps.length c] w fun e w' => ∃ fv, e = .returned (.tuple #[fv, .int .i64 0]) ∧ VTR w0 K L0 v X1 Y fv ids w' := hh.mono fun e w' k => by
    unfold HoldAt at k
    rw [hH] at k
    exact k
  have hwr : IntKind.i64.wrap (Y.last + 1) = Y.last + 1 := IntWalk.i64_in _ (by omega)
  have Hfr := Lib.hid hfr
  clear h hh hps hsz hH ho h8 h32 hN hfr
  go_enter Tryz.func55, Tryz.ntmps55
  go_wp2_with fail
  refine hh2.mono ?_
  rintro e w5 ⟨fv, rfl, h5⟩
  obtain ⟨fa, fc, hfv⟩ : ∃ a c, fv = .slice a ids.length c := by
    obtain ⟨S, R, L, T, k1, _⟩ := h5
    exact PcI.shape k1.ownL (.inr (List.mem_cons_self ..))
  subst hfv
  have k5 := h5.vt
  obtain ⟨d0, d1, d2⟩ := k5.tab
  have f1 := k5.free 1
  have k6 := (k5.setLast (Y.last + 1)).drew
  have f6 := (k5.setLast (Y.last + 1)).tab.2.1
  have g6 : (w5.setCell ⟨Y.tb, 1, none⟩ (.int .i64 (Y.last + 1))).drew.cell? ⟨Y.tb, 1, none⟩ = some (.int .i64 (Y.last + 1)) ∧ (w5.setCell ⟨Y.tb, 1, none⟩ (.int .i64 (Y.last + 1))).drew.cell? ⟨Y.tb, 2, none⟩ = some (.map (some Y.mb)) := k6.tab.2
  obtain ⟨w6, hw6⟩ : ∃ w6, w6 = w5.setCell ⟨Y.tb, 1, none⟩ (.int .i64 (Y.last + 1)) := ⟨_, rfl⟩
  rw [← hw6] at k6 g6
  obtain ⟨o', hup, k7⟩ := k6.addRun (i := Y.last + 1) Hfr.out ⟨w6.drew.heap.size, u, .slice fa ids.length fc, ids, false⟩ rfl (.inr (List.mem_cons_self ..))
  unfold prCells at hup k7
  dsimp only at hup k7
  have g7 := k7.tab.2
  dsimp only at g7
  have g8 : (w6.drew.alloc (.cells #[.int .i64 (Y.last + 1), .string u, .slice fa ids.length fc, .bool false] 93)).cell? ⟨Y.tb, 1, none⟩ = some (.int .i64 (Y.last + 1)) ∧ (w6.drew.alloc (.cells #[.int .i64 (Y.last + 1), .string u, .slice fa ids.length fc, .bool false] 93)).cell? ⟨Y.tb, 2, none⟩ = some (.map (some Y.mb)) := by
    obtain ⟨S, R, L, T, q1, q2, _⟩ := k6
    have hO := q1.own.newB (.cells #[.int .i64 (Y.last + 1), .string u, .slice fa ids.length fc, .bool false] 93)
    have hc := List.mem_cons_of_mem (w6.drew.heap.size, Obj.cells #[.int .i64 (Y.last + 1), .string u, .slice fa ids.length fc, .bool false] 93) q2.cells
    exact ⟨by rw [hO.cellB hc]; rfl, by rw [hO.cellB hc]; rfl⟩
  have HP := Lib.hid (show ∃ b fv, VT w0 K L0 v X1 { Y with last := Y.last + 1, runs := put Y.runs (Y.last + 1) ⟨b, u, fv, ids, false⟩ } (setBlock (w6.drew.alloc (.cells #[.int .i64 (Y.last + 1), .string u, .slice fa ids.length fc, .bool false] 93)) Y.mb o') from ⟨_, _, k7.rows fun x hx => List.mem_cons_of_mem _ hx⟩)
  have hup2 : (Instr.mapUpdate 111 (.map (some Y.mb)) (.int .i64 (Y.last + 1)) (.pointer (some ⟨w6.heap.size, 0, none⟩))).run Tryz.prog (w6.alloc (.cells #[.int .i64 (Y.last + 1), .string u, .slice fa ids.length fc, .bool false] 93)).drew = .ok () (setBlock (w6.drew.alloc (.cells #[.int .i64 (Y.last + 1), .string u, .slice fa ids.length fc, .bool false] 93)) Y.mb o') := hup
  have g8' : (w6.alloc (.cells #[.int .i64 (Y.last + 1), .string u, .slice fa ids.length fc, .bool false] 93)).drew.cell? ⟨Y.tb, 1, none⟩ = some (.int .i64 (Y.last + 1)) ∧ (w6.alloc (.cells #[.int .i64 (Y.last + 1), .string u, .slice fa ids.length fc, .bool false] 93)).drew.cell? ⟨Y.tb, 2, none⟩ = some (.map (some Y.mb)) := g8
  obtain ⟨W7, hW7⟩ : ∃ W7, W7 = setBlock (w6.drew.alloc (.cells #[.int .i64 (Y.last + 1), .string u, .slice fa ids.length fc, .bool false] 93)) Y.mb o' := ⟨_, rfl⟩
  rw [← hW7] at hup2 HP g7
  clear h5 hh2 k5 k6 k7 hup hW7 g8
  go_wp2_with fail
  rw [← hw6]
  clear hw6 d0 d1 d2 f1 f6
  go_region_held3 (fun w' : World => w'.cell? ⟨Y.tb, 1, none⟩ = some (.int .i64 (Y.last + 1)) ∧ w'.cell? ⟨Y.tb, 2, none⟩ = some (.map (some Y.mb))) (first | exact g6 | exact g8' | exact g7) (fail)
  all_goals go_wp2_with fail
  all_goals go_ret2
  all_goals exact ⟨rfl, HP.out⟩
end
end Go.Proofs.YtkhnkidggcjfeaaGreatDoor
end
section
namespace Go.Proofs.YtkhnkidggcjfeaaGreatDoor
open Go.RowKit Go.Maps Go.Shelf
open Go.ChangeMaps (setBlock)
open Go.WideElems (Fit rd rg)
def zOf (v : Value) : Int := match v with
  | .int _ z => z
  | _ => 0
section
variable {w0 w w' : World} {R L L' L1 M L0 : List Rw} {v : Nat} {X X' : VX} {Y Y' : Tab} {K K' : Blocks}
end
end Go.Proofs.YtkhnkidggcjfeaaGreatDoor
end
section
namespace Go.Proofs.YtkhnkidggcjfeaaGreatDoor
open Go.RowKit
open Go.ChangeMaps (setBlock)
open Go.MapKept (run_setObj_map)
section
variable {P : Program} {α : Type} {w : World} {b : Nat} {o : Obj} {mt kt et : TypeId} {K : α → Value} {m : List (α × Value)}
end
section
variable {w0 w w' : World} {S S' S1 : Blocks} {R L L' L1 M L0 : List Rw} {v c n d : Nat} {X X' X1 X2 : VX} {T T' Tc T1 : Tr} {Y Y' : Tab} {K K' : Blocks} {fv : Value} {acc : List Int}
theorem pnew_any (h : VolAt w0 w K L0 v X) : Calls Tryz.prog 18 #[filesV v] w fun e w' => ∃ Y : Tab, e = .returned (.pointer (some ⟨Y.tb, 0, none⟩)) ∧ Y.last = 0 ∧ Y.runs = [] ∧ VT w0 K L0 v X Y w' := by
  obtain ⟨S, R, L, T, h1, h4, h5⟩ := h
  have hO1 := h1.own.newB (.map #[] 0)
  have hO := hO1.newB (.cells (tabCells v ⟨w.heap.size + 1, w.heap.size, 0, []⟩) 113)
  rw [show (w.alloc (.map #[] 0)).heap.size = w.heap.size + 1 by simp] at hO
  have hk : ∀ b x, (b, x) ∈ S → (b, x) ∈ (w.heap.size + 1, Obj.cells (tabCells v ⟨w.heap.size + 1, w.heap.size, 0, []⟩) 113) :: (w.heap.size, Obj.map #[] 0) :: S := fun b x hb => List.mem_cons_of_mem _ (List.mem_cons_of_mem _ hb)
  have hV : VT w0 K L0 v X ⟨w.heap.size + 1, w.heap.size, 0, []⟩ ((w.alloc (.map #[] 0)).alloc (.cells (tabCells v ⟨w.heap.size + 1, w.heap.size, 0, []⟩) 113)) := by
    refine ⟨_, R, L, T, h1.base hO fun b x hx _ => hk b x hx, ⟨List.mem_cons_self .., ⟨_, List.mem_cons_of_mem _ (List.mem_cons_self ..), MapO.empty _⟩, (fun q hq => by cases hq), ?_⟩, fun b hb hx => ?_, h4, fun b x hb => ?_⟩
    · show [w.heap.size + 1, w.heap.size].Nodup
      simp
    · have h6 : b ∈ [w.heap.size + 1, w.heap.size] := hb
      have h7 := (h1.lt hx).2
      simp at h6; omega
    · obtain ⟨q1, q2⟩ := h5 b x hb
      refine ⟨hk b x q1, q2, fun h6 => ?_⟩
      have h6 : b ∈ [w.heap.size + 1, w.heap.size] := h6
      have h7 := (h1.own.atLt q1).2
      simp at h6; omega
  have HP := Lib.hid hV
  unfold tabCells filesV at *
  clear hV hO hO1 h1 hk h5
  have hmk : ∀ w, (Instr.makeMap 111 none).run Tryz.prog w = .ok (.map (some w.heap.size)) (w.alloc (.map #[] 0)) := fun w => rfl
  go_enter Tryz.func18, Tryz.ntmps18
  go_wp2_with fail
  go_ret
  exact ⟨⟨w.heap.size + 1, w.heap.size, 0, []⟩, rfl, rfl, rfl, HP.out⟩
end
end Go.Proofs.YtkhnkidggcjfeaaGreatDoor
end
section
namespace Go.Proofs.YtkhnkidggcjfeaaGreatDoor
open Go.RowKit
open Go.ChangeMaps (setBlock)
section
variable {w0 w w' : World} {S S' S1 : Blocks} {R L L' L1 M L0 : List Rw} {v c n d : Nat} {X X' X1 X2 : VX} {T T' Tc T1 : Tr} {Y Y' : Tab} {K K' : Blocks} {fv : Value} {acc : List Int}
set_option maxHeartbeats 800000 in
theorem cloneI_any (w : World) (a : Option Addr) (acc : List Int) (cap : Nat) (hl : acc.length ≤ 1000000) (hn : a = none → acc = []) (hr : ∀ i (h : i < acc.length), ∃ g off, a = some ⟨g, off, none⟩ ∧ w.cell? ⟨g, off + i, none⟩ = some (.int .i64 acc[i])) (hform : ∀ b, a = some b → ∃ g off, b = ⟨g, off, none⟩) :
    Calls Tryz.prog 70 #[.slice a acc.length cap] w fun e w' => ∃ v, e = .returned v ∧ Own w w' [rowI v acc] := by
  obtain ⟨i0, hi, hz0, hz1, hz2⟩ := info_parts info_i
  cases a with
  | none =>
    have hn' := hn rfl
    subst hn'
    have hnil : Sem.run Tryz.prog (binOp BinOp.eql 84 (.slice none 0 cap) (.slice none 0 0)) w = .ok (.bool true) w := Lib.run_eql_slice_nil (P := Tryz.prog) w 84 3 none 0 cap 0 0 Tryz.underlying84
    clear hr hn hform
    go_enter Tryz.func70, Tryz.ntmps70
    go_wp2_with fail
    go_ret
    exact ⟨_, rfl, (Own.start w).nil _ _⟩
  | some ad =>
    obtain ⟨g, off, rfl⟩ := hform ad rfl
    have hs : Src w (.slice (some ⟨g, off, none⟩) acc.length cap) acc.length (acc.map (Value.int .i64)) := by
      refine .inr ⟨_, _, rfl, fun j u hj => ?_, fun u hu => by obtain ⟨z, _, rfl⟩ := List.mem_map.1 hu; rfl⟩
      have hj4 : j < acc.length := by
        have := (List.getElem?_eq_some_iff.1 hj).1
        simpa using this
      obtain ⟨g2, o2, e2, h2⟩ := hr j hj4
      injection e2 with e2
      injection e2 with e3 e4
      subst e3 e4
      rw [List.getElem?_map, List.getElem?_eq_getElem hj4] at hj
      rw [Addr.add_mid, h2]
      simpa using hj
    have hnil : Sem.run Tryz.prog (binOp BinOp.eql 84 (.slice (some ⟨g, off, none⟩) acc.length cap) (.slice none 0 0)) w = .ok (.bool false) w := Lib.run_eql_slice_nil (P := Tryz.prog) w 84 3 (some ⟨g, off, none⟩) acc.length cap 0 0 Tryz.underlying84
    have HO := Lib.hid ((Own.start w).made 3 1 #[] 0 rfl (Nat.zero_le _))
    have Hs := Lib.hid (hs.later (Below.alloc (Below.refl _ w) (Nat.le_refl _) (.cells #[] 3)))
    have Hl := Lib.hid (show (acc.map (Value.int .i64)).length = acc.length * 1 by simp)
    have hl2 : 0 + acc.length ≤ maxLen := by unfold maxLen; omega
    have hl3 : (0 + acc.length) * 8 ≤ 140737488355328 := by omega
    clear hs hr hn hform
    go_enter Tryz.func70, Tryz.ntmps70
    go_wp2_with (at_builtin; refine wpList_append_src rfl (.tmp 5) (.tmp 6) 84 rfl (.slice (some ⟨w.heap.size, 0, none⟩) 0 0) 0 [] (.slice (some ⟨g, off, none⟩) acc.length cap) acc.length (acc.map (Value.int .i64)) rfl rfl HO.out i0 (.int .i64 0) 8 Tryz.underlying84 hi hz0 hz1 hz2 rfl (by decide) Hs.out Hl.out hl2 hl3 ?_)
    intro v' w' hO'
    have HO' := Lib.hid hO'
    clear hO'
    go_wp2_with fail
    go_ret
    exact ⟨_, rfl, by have := HO'.out; simpa [rowI] using this⟩
def rQ (g : Nat) (xs : List Value) : Rw := ⟨93, 4, .slice (some ⟨g, 0, none⟩) 1 1, 1, xs⟩
def zQ : List Value := [.int .i64 0, .string ⟨#[]⟩, .slice none 0 0, .bool false]
theorem Own.boxQ {W0 : Base} {w : World} {L : List Rw} (h : Own W0 w L) (xs : List Value) (hx : xs.length = 4) (g : Nat) (hg : g = w.heap.size) : Own W0 (w.alloc (.cells xs.toArray 93)) (rQ g xs :: L) :=
  h.made_at 93 4 xs.toArray 1 g hg (by simp [hx]) (by unfold maxLen; decide)
theorem Own.setQ {W0 : Base} {w : World} {g : Nat} {xs : List Value} {L : List Rw} (h : Own W0 w (rQ g xs :: L)) (ys : List Value) (hx : xs.length = ys.length) : Own W0 (w.setCells g 0 ys) (rQ g ys :: L) := by
  have h1 := Own.setCells (h := h) ys 0
  rw [splice_all' xs ys hx] at h1
  exact h1
theorem Own.rangeQ {W0 : Base} {w : World} {g : Nat} {xs : List Value} {L : List Rw} (h : Own W0 w (rQ g xs :: L)) (hx : xs.length = 4) : w.rangeAt g 0 xs := by
  have h1 := Own.range (h := h) 0 4
  rw [List.drop_zero, ← hx, List.take_length] at h1
  exact h1
theorem info_proc : (Tryz.prog.info? 93).map (·.size) = some 4 := by kernel_rfl
theorem VT.cells (h : VT w0 K L0 v X Y w) {i : Int} {p : Pr} (hp : look Y.runs i = some p) : w.cell? ⟨p.b, 0, none⟩ = some (.int .i64 i) ∧ w.cell? ⟨p.b, 1, none⟩ = some (.string p.u) ∧ w.cell? ⟨p.b, 2, none⟩ = some p.mv ∧ w.cell? ⟨p.b, 3, none⟩ = some (.bool p.ends) :=
  ⟨(h.proc hp 0).1, (h.proc hp 1).1, (h.proc hp 2).1, (h.proc hp 3).1⟩
theorem Own.cellsQ {W0 : Base} {w : World} {g : Nat} {a b c d : Value} {L : List Rw} (h : Own W0 w (rQ g [a, b, c, d] :: L)) :
    (w.cell? ⟨g, 0, none⟩ = some a ∧ w.cell? ⟨g, 1, none⟩ = some b ∧ w.cell? ⟨g, 2, none⟩ = some c ∧ w.cell? ⟨g, 3, none⟩ = some d) ∧ w.frozen? ⟨g, 0, none⟩ = false ∧ w.frozen? ⟨g, 1, none⟩ = false ∧ w.frozen? ⟨g, 2, none⟩ = false ∧ w.frozen? ⟨g, 3, none⟩ = false :=
  ⟨⟨Own.cell (h := h) 0 (by decide), Own.cell (h := h) 1 (by decide), Own.cell (h := h) 2 (by decide), Own.cell (h := h) 3 (by decide)⟩, Own.free (h := h) 0, Own.free (h := h) 1, Own.free (h := h) 2, Own.free (h := h) 3⟩
theorem PcI.addr {a : Option Addr} {cp : Nat} (h : PcI L0 (.slice a acc.length cp) acc) (hV : VT w0 K L0 v X Y w) : (a = none → acc = []) ∧ ∀ b, a = some b → ∃ g off, b = ⟨g, off, none⟩ := by
  rcases h with ⟨h1, h2⟩ | h
  · injection h1 with e1
    exact ⟨fun _ => h2, fun b hb => by rw [e1] at hb; cases hb⟩
  · obtain ⟨_, hr⟩ := hV.row h
    rcases hr.head.2 with ⟨h1, h2⟩ | ⟨g, cp2, cur, h1, _⟩
    · have h1' : Value.slice a acc.length cp = .slice none 0 0 := h1
      injection h1' with e1
      exact ⟨fun _ => List.eq_nil_of_length_eq_zero h2, fun b hb => by rw [e1] at hb; cases hb⟩
    · have h1' : Value.slice a acc.length cp = .slice (some ⟨g, 0, none⟩) acc.length cp2 := h1
      injection h1' with e1
      refine ⟨fun hn => (by rw [e1] at hn; cases hn), fun b hb => ?_⟩
      rw [e1] at hb
      injection hb with hb
      exact ⟨g, 0, hb.symm⟩
set_option maxHeartbeats 4000000 in
theorem get_yes (h : VT w0 K L0 v X Y w) (i : Int) {p : Pr} (hp : look Y.runs i = some p) (hpl : p.maps.length ≤ 1000000) : Calls Tryz.prog 39 #[.pointer (some ⟨Y.tb, 0, none⟩), .int .i64 i] w fun e w' => ∃ mv : Value, e = .returned (.tuple #[.agg #[.int .i64 i, .string p.u, mv, .bool p.ends], .bool true]) ∧ VT w0 K L0 v X Y w' ∧ Own w w' [rowI mv p.maps] := by
  obtain ⟨t0, t1, t2⟩ := h.tab
  have hO := (Own.start w).boxQ zQ rfl w.heap.size rfl
  have h2 := h.later hO.below
  obtain ⟨_, _, d2⟩ := h2.tab
  have hl := h2.foundYes hp
  obtain ⟨k0, k1, k2, k3⟩ := h2.cells hp
  obtain ⟨L1, hs1, hpc, hV1⟩ := h2.all
  have hpc := hpc _ (look_mem hp)
  dsimp only at hpc
  obtain ⟨fa, fc, hfv⟩ : ∃ a c, p.mv = .slice a p.maps.length c := by
    obtain ⟨S, R, L, T, q1, _, _, q4, _⟩ := hV1
    exact PcI.shape q1.ownL (hpc.imp id (q4 _))
  rw [hfv] at hpc k2
  have hsz : (w.alloc (.cells zQ.toArray 93)).heap.size = w.heap.size + 1 := by simp
  have hO2 := hO.boxQ [.int .i64 i, .string p.u, .slice fa p.maps.length fc, .bool p.ends] rfl (w.heap.size + 1) hsz.symm
  have hb2 := (Below.refl _ (w.alloc (.cells zQ.toArray 93))).alloc (Nat.le_refl _) (.cells ([.int .i64 i, .string p.u, .slice fa p.maps.length fc, .bool p.ends] : List Value).toArray 93)
  have m2 := ((h2.later hb2).cells hp).2.2.1
  rw [hfv] at m2
  have hVB := hV1.later hb2
  obtain ⟨ha1, ha2⟩ := PcI.addr hpc hVB
  have hcl := cloneI_any _ fa p.maps fc hpl ha1 (fun j hj => PcI.at hpc hVB j hj) ha2
  have H := Lib.hid h
  have HO2 := Lib.hid hO2
  unfold zQ at *
  clear h h2 hO hV1 hp hO2 hVB hpc ha1 ha2 hb2 hsz
  go_enter Tryz.func39, Tryz.ntmps39
  go_wp2_with fail
  refine hcl.mono ?_
  rintro e w3 ⟨mv, rfl, h3⟩
  obtain ⟨ma, mc, hmv, _, _⟩ := Own.sized (h := (show Own _ w3 (⟨3, 1, mv, p.maps.length, p.maps.map (Value.int .i64)⟩ :: []) from h3))
  subst hmv
  have hO3 := HO2.out.join h3
  have hO3 : Own w w3 (rQ (w.heap.size + 1) [.int .i64 i, .string p.u, .slice fa p.maps.length fc, .bool p.ends] :: rowI (.slice ma p.maps.length mc) p.maps :: [rQ w.heap.size zQ]) := hO3.swap
  have f3 := (Own.cellsQ hO3).2.2.2.1
  have e3 := (Own.cellsQ hO3).1.2.2.1
  have hO4 : Own w (w3.setCell ⟨w.heap.size + 1, 2, none⟩ (.slice ma p.maps.length mc)) (rQ (w.heap.size + 1) [.int .i64 i, .string p.u, .slice ma p.maps.length mc, .bool p.ends] :: rowI (.slice ma p.maps.length mc) p.maps :: [rQ w.heap.size zQ]) := Own.set (h := hO3) 2 _
  obtain ⟨⟨a0, a1, a2, a3⟩, _⟩ := Own.cellsQ hO4
  have hO4' : Own w (w3.setCell ⟨w.heap.size + 1, 2, none⟩ (.slice ma p.maps.length mc)) (rQ w.heap.size zQ :: rQ (w.heap.size + 1) [.int .i64 i, .string p.u, .slice ma p.maps.length mc, .bool p.ends] :: [rowI (.slice ma p.maps.length mc) p.maps]) := hO4.perm ((List.Perm.cons _ (List.Perm.swap ..)).trans (List.Perm.swap ..))
  obtain ⟨⟨b0, b1, b2, b3⟩, g0, g1, g2, g3⟩ := Own.cellsQ (show Own _ _ (rQ w.heap.size [.int .i64 0, .string ⟨#[]⟩, .slice none 0 0, .bool false] :: _) from hO4')
  have hO5 := hO4'.setQ [.int .i64 i, .string p.u, .slice ma p.maps.length mc, .bool p.ends] rfl
  have cr := Lib.hid (hO5.rangeQ rfl)
  have HP := Lib.hid (show ∃ mv : Value, Value.tuple #[.agg #[.int .i64 i, .string p.u, .slice ma p.maps.length mc, .bool p.ends], .bool true] = .tuple #[.agg #[.int .i64 i, .string p.u, mv, .bool p.ends], .bool true] ∧ VT w0 K L0 v X Y _ ∧ Own w _ [rowI mv p.maps] from ⟨_, rfl, H.out.later hO5.below, hO5.only (List.mem_cons_of_mem _ (List.mem_cons_of_mem _ (List.mem_cons_self ..)))⟩)
  clear hO3 hO4 hO4' hO5 h3 hcl HO2 H
  go_wp2_with fail
  refine bodyPost_ret (v := .tuple #[.agg ([.int .i64 i, .string p.u, .slice ma p.maps.length mc, .bool p.ends] : List Value).toArray, .bool true]) (ret_cell_tmpT Tryz.results39 rfl rfl cr.out Tryz.underlying93 rfl info_proc) rfl ?_
  obtain ⟨mv, e1, e2, e3⟩ := HP.out
  exact ⟨mv, congrArg Ending.returned e1, e2, e3⟩
end
end Go.Proofs.YtkhnkidggcjfeaaGreatDoor
end
section
namespace Go.Proofs.YtkhnkidggcjfeaaGreatDoor
open Go.RowKit
open Go.ChangeMaps (setBlock)
def toOpB (o : OpD × List Int) : OpB := ⟨o.1.kind, sb o.1.p, sb o.1.q, o.2⟩
def toOpE (o : OpB) : OpE := ⟨o.κ, o.p.map fun z => UInt8.ofNat z.toNat, o.q.map fun z => UInt8.ofNat z.toNat, o.d⟩
section
variable {w0 w w' : World} {S S' S1 : Blocks} {R L L' L1 M : List Rw} {v c n d t : Nat} {T T' Tc T1 : Tr} {K : Blocks} {sv : Value} {zs : List Int} {E : Et} {B : Nat}
def RedoAt (w0 : World) (S : Blocks) (L : List Rw) (t : Nat) (T : Tr) (w : World) (E1 : Et) (e : Ending) (w' : World) : Prop :=
  ∃ ids : List Int, ids.Perm (looseE E1.nodes) ∧ DoL w0 S L t T w (fun T' => Rep T' (reapE E1 ids)) (.bool true) e w'
end
end Go.Proofs.YtkhnkidggcjfeaaGreatDoor
end
section
namespace Go.Proofs.YtkhnkidggcjfeaaGreatDoor
open Go.RowKit
open Go.ChangeMaps (setBlock)
section
variable {w0 w w' : World} {S S' S1 : Blocks} {R L L' L1 M : List Rw} {v c n d t : Nat} {T T' Tc T1 : Tr} {K : Blocks} {sv : Value} {zs : List Int} {E : Et} {B : Nat}
structure Redos (q : Int) (ls : List (List OpB)) (Es : Nat → Et) : Prop where
  first : Es 0 = E0 (max q 0)
  ok : ∀ k (h : k < ls.length), 0 < ls[k].length ∧ (∀ o ∈ ls[k], OkB o) ∧ (packsB ls[k]).length ≤ 100000 ∧ ls[k].length ≤ 100 ∧ (DoE (Es k) (ls[k].map toOpE)).1 = 0 ∧ ∀ ids : List Int, ids.Perm (looseE (DoE (Es k) (ls[k].map toOpE)).2.nodes) → reapE (DoE (Es k) (ls[k].map toOpE)).2 ids = Es (k + 1)
  many : ls.length ≤ 100
def recB2 (l : List OpB) : List Int := 111 :: packsB l
def MadeRel (w0 : World) (S : Blocks) (L : List Rw) (n t : Nat) (E : Et) (wr : World) : Prop :=
  ∃ S' L' T, Own ⟨w0, S'⟩ wr L' ∧ (∀ x ∈ L, x ∈ L') ∧ Tree S' (Pc L') t T ∧ Rep T E ∧ (∀ b x, (b, x) ∈ S → (b, x) ∈ S') ∧ (∀ b ∈ t :: T.foot, n ≤ b)
end
end Go.Proofs.YtkhnkidggcjfeaaGreatDoor
end
section
namespace Go.Proofs.YtkhnkidggcjfeaaGreatDoor
open Go.RowKit
open Go.ChangeMaps (setBlock)
section
variable {w0 w w' : World} {S S' S1 : Blocks} {R L L' L1 M : List Rw} {v c n d t : Nat} {T T' Tc T1 : Tr} {K : Blocks} {sv : Value} {zs : List Int} {E : Et} {B : Nat}
def liveX (t d l hm : Nat) (E : Et) (B : Nat) (D : Dk) (n h side used st : Nat) (recs : List (List Int)) : VX := ⟨t, d, l, hm, E, B, [], D, n, h, side, used, st, recs⟩
end
end Go.Proofs.YtkhnkidggcjfeaaGreatDoor
end
section
namespace Go.Proofs.YtkhnkidggcjfeaaGreatDoor
open Go.RowKit
open Go.ChangeMaps (setBlock)
def pF : List UInt8 := [47, 102]
def pGg : List UInt8 := [47, 103]
def EV1 (q : Int) (A : List Int) : Et := ⟨q, 3, [(1, ⟨true, [(toB [102], 2)], [], 0⟩), (2, ⟨false, [], A, 1⟩)]⟩
def EVm (q : Int) (A B : List Int) : Et := ⟨q, 4, [(1, ⟨true, [(toB [102], 2), (toB [103], 3)], [], 0⟩), (2, ⟨false, [], A, 1⟩), (3, ⟨false, [], B, 1⟩)]⟩
def EV2 (q : Int) (A B : List Int) : Et := ⟨q, 4, [(1, ⟨true, [(toB [102], 3)], [], 0⟩), (2, ⟨false, [], A, 0⟩), (3, ⟨false, [], B, 1⟩)]⟩
def EV3 (q : Int) (B : List Int) : Et := ⟨q, 4, [(1, ⟨true, [(toB [102], 3)], [], 0⟩), (3, ⟨false, [], B, 1⟩)]⟩
def EVu (q : Int) (A : List Int) : Et := ⟨q, 3, [(1, ⟨true, [], [], 0⟩), (2, ⟨false, [], A, 0⟩)]⟩
def EVn (q : Int) : Et := ⟨q, 3, [(1, ⟨true, [], [], 0⟩)]⟩
def oA (A : List Int) : OpB := ⟨2, [47, 102], [], A⟩
def oB (B : List Int) : OpB := ⟨2, [47, 103], [], B⟩
def oR : OpB := ⟨5, [47, 103], [47, 102], []⟩
def lsH (A B : List Int) : List (List OpB) := [[oA A], [oB B, oR]]
def EsH (A B : List Int) : Nat → Et
  | 0 => E0 5000
  | 1 => EV1 5000 A
  | _ => EV3 5000 B
section
variable {w0 w w' : World} {S S' S1 : Blocks} {R L L' L1 M : List Rw} {v c n d t b : Nat} {T T' Tc T1 : Tr} {K : Blocks} {sv : Value} {zs : List Int} {E : Et} {B : Nat} {ops : List OpD} {xs : List OpE} {C : Array Value}
theorem op_noneV (k : Int) (p q : ByteArray) (hp : p.size ≤ 1000) (hq : q.size ≤ 1000) : OpIn w0 S L ⟨k, p, q, none, 0, 0⟩ ⟨k, p.data.toList, q.data.toList, []⟩ :=
  ⟨rfl, rfl, rfl, by unfold maxLen; show p.size ≤ _; omega, by unfold maxLen; show q.size ≤ _; omega, rfl, .inl (Pc.nil L)⟩
end
end Go.Proofs.YtkhnkidggcjfeaaGreatDoor
end
section
namespace Go.Proofs.YtkhnkidggcjfeaaGreatDoor
open Go.RowKit
open Go.ChangeMaps (setBlock)
section
variable {w0 w w' : World} {S S' S1 : Blocks} {R L L' L1 M : List Rw} {v c n d t b : Nat} {X : VX} {T T' Tc T1 : Tr} {K : Blocks} {sv : Value} {zs : List Int} {E : Et} {ops : List OpD} {xs : List OpE} {C : Array Value}
def oU : OpB := ⟨6, [47, 102], [], []⟩
end
def one7 : List Int := [111, 110, 101]
abbrev lit7 : Obj := .cells #[.int .u8 111, .int .u8 110, .int .u8 101] 5 (3, 4)
end Go.Proofs.YtkhnkidggcjfeaaGreatDoor
end
section
namespace Go.Proofs.YtkhnkidggcjfeaaGreatDoor
open Go.RowKit
open Go.ChangeMaps (setBlock)
def pFa : List UInt8 := [47, 97]
def pFb : List UInt8 := [47, 98]
def pFd : List UInt8 := [47, 100]
def pFc : List UInt8 := [47, 100, 47, 99]
def EO : Et := ⟨2000, 6, [(1, ⟨true, [(toB [97], 2), (toB [98], 3), (toB [100], 4)], [], 0⟩), (2, ⟨false, [], [97], 1⟩), (3, ⟨false, [], [], 1⟩), (4, ⟨true, [(toB [99], 5)], [], 0⟩), (5, ⟨false, [], [], 1⟩)]⟩
abbrev lit1 : Obj := .cells #[.int .u8 97] 5 (1, 2)
def recL : List OpB := [⟨2, [47, 97], [], [97]⟩, ⟨2, [47, 98], [], []⟩, ⟨0, [47, 100], [], []⟩, ⟨2, [47, 100, 47, 99], [], []⟩]
section
variable {w0 w w' : World} {S S' S1 : Blocks} {R L L' L1 M : List Rw} {v c n d t b : Nat} {X : VX} {T T' Tc T1 : Tr} {K : Blocks}
def opsO (a : Option Addr) (cp : Nat) : List OpD := [⟨2, toB pFa, ⟨#[]⟩, a, 1, cp⟩, ⟨2, toB pFb, ⟨#[]⟩, none, 0, 0⟩, ⟨0, toB pFd, ⟨#[]⟩, none, 0, 0⟩, ⟨2, toB pFc, ⟨#[]⟩, none, 0, 0⟩]
def xsO : List OpE := [⟨2, pFa, [], [97]⟩, ⟨2, pFb, [], []⟩, ⟨0, pFd, [], []⟩, ⟨2, pFc, [], []⟩]
end
end Go.Proofs.YtkhnkidggcjfeaaGreatDoor
end
section
namespace Go.Proofs.YtkhnkidggcjfeaaGreatDoor
open Go.RowKit
open Go.ChangeMaps (setBlock)
section
variable {w0 w w' : World} {S S' S1 : Blocks} {R L L' L1 M L0 : List Rw} {v c n d : Nat} {X X' X1 X2 : VX} {T T' Tc T1 : Tr} {Y Y' : Tab} {K K' : Blocks} {fv : Value} {acc : List Int}
end
def pFx : List UInt8 := [47, 120]
def uU : ByteArray := ⟨#[117]⟩
end Go.Proofs.YtkhnkidggcjfeaaGreatDoor
end
section
namespace Go.Proofs.YtkhnkidggcjfeaaGreatDoor
open Go.RowKit
open Go.ChangeMaps (setBlock)
end Go.Proofs.YtkhnkidggcjfeaaGreatDoor
end
section
namespace Go.Proofs.YtkhnkidggcjfeaaGreatDoor
open Go.RowKit Go.WideShapes Go.ChangeShapes
def Nums (w : World) (a : Option Addr) (l : List Int) : Prop := ∀ i (h : i < l.length), ∃ g off, a = some ⟨g, off, none⟩ ∧ w.cell? ⟨g, off + i, none⟩ = some (.int .i64 l[i])
structure Bat where
  a : Option Addr
  c : Nat
  ops : List OpD
  xs : List OpE
  ra : Option Addr
  rc : Nat
  reap : List Int
abbrev Bat.cells (b : Bat) : List Value := [.slice b.a b.ops.length b.c, .slice b.ra b.reap.length b.rc]
structure BatOld (w : World) (b : Bat) : Prop where
  ops : OpsA w b.a b.ops b.xs
  reap : Nums w b.ra b.reap
  few : b.reap.length ≤ maxLen
  wf : ∀ n ∈ b.reap, (Lit.int .i64 n).wf = true
def Bats (w : World) (a : Option Addr) (bs : List Bat) : Prop := ∀ i (h : i < bs.length), (∃ g off, a = some ⟨g, off, none⟩ ∧ w.rangeAt g (off + i * 2) bs[i].cells) ∧ BatOld w bs[i]
def bulkB (bs : List Bat) : Nat := (bs.map fun b => 1 + b.ops.length).sum
end Go.Proofs.YtkhnkidggcjfeaaGreatDoor
end
section
namespace Go.Proofs.YtkhnkidggcjfeaaGreatDoor
open Go.RowKit Go.WideShapes Go.ChangeShapes
def ActsA (w : World) (a : Option Addr) (l : List (Int × Int)) : Prop := ∀ i (h : i < l.length), ∃ (g off : Nat) (f : Int) (pa : Option Addr) (pn pc : Nat), a = some ⟨g, off, none⟩ ∧ w.rangeAt g (off + i * 4) [.int .i64 l[i].1, .int .i64 l[i].2, .int .i64 f, .slice pa pn pc]
structure NumOk (k : Nat) (X : VX) (Y : Tab) : Prop where
  last : 0 ≤ Y.last ∧ Y.last ≤ k
  keys : (Y.runs.map (·.1)).Nodup
  each : ∀ p ∈ Y.runs, (1 ≤ p.1 ∧ p.1 ≤ Y.last) ∧ p.2.maps = []
  few : Y.runs.length ≤ k
  held : HeldOk 0 X
def NumSt (w0 : World) (v tb n : Nat) (last i : Value) (wr : World) : Prop :=
  ∃ (k : Nat) (X : VX) (Y : Tab), k ≤ n ∧ i = .int .i64 k ∧ last = .int .i64 Y.last ∧ Y.tb = tb ∧ NumOk k X Y ∧ VT w0 [] [] v X Y wr
end Go.Proofs.YtkhnkidggcjfeaaGreatDoor
end
section
namespace Go.Proofs.YtkhnkidggcjfeaaGreatDoor
open Go.RowKit
open Go.ChangeMaps (setBlock)
end Go.Proofs.YtkhnkidggcjfeaaGreatDoor
end
section
namespace Go.Proofs.YtkhnkidggcjfeaaGreatDoor
open Go.RowKit
def P3 : List (List UInt8 × Int) := [(pFa, 2), (pFb, 3), (pFc, 5)]
def tot (rs : List (Int × List Int)) (j : Int) : Nat := (rs.map fun q => q.2.count j).sum
def runsM (Y : Tab) : List (Int × List Int) := Y.runs.map fun q => (q.1, q.2.maps)
structure EndOk (M : Nat) (X : VX) (Y : Tab) : Prop where
  E : X.E = EO
  held : HeldOk M X
  keys : (Y.runs.map (·.1)).Nodup
  cnt : ∀ j, heldN X.held j = (tot (runsM Y) j : Nat)
end Go.Proofs.YtkhnkidggcjfeaaGreatDoor
end
section
namespace Go.Proofs.YtkhnkidggcjfeaaGreatDoor
open Go.RowKit
open Go.ChangeMaps (setBlock)
def VTX (w0 : World) (K : Blocks) (L0 : List Rw) (v : Nat) (X : VX) (Y : Tab) (rs : List Rw) (w : World) : Prop :=
  ∃ S R L T, Own ⟨w0, S⟩ w (rs ++ (R ++ L)) ∧ VolIn w0 S R L v X T w ∧ TabIn S L v Y ∧ (∀ b ∈ Y.foot, b ∉ v :: X.hm :: X.t :: T.foot) ∧ (∀ x ∈ L0, x ∈ L) ∧ (∀ b x, (b, x) ∈ K → (b, x) ∈ S ∧ b ∉ v :: X.hm :: X.t :: T.foot ∧ b ∉ Y.foot)
section
variable {w0 w w' : World} {S S' : Blocks} {R L L' L0 rs : List Rw} {v g n cap e size : Nat} {X : VX} {T : Tr} {Y : Tab} {K : Blocks} {vv : Value} {xs : List Value} {cur : Array Value}
theorem VTX.vt (h : VTX w0 K L0 v X Y rs w) : VT w0 K L0 v X Y w := by
  obtain ⟨S, R, L, T, _, h1, h2, h3, h4, h5⟩ := h
  exact ⟨S, R, L, T, h1, h2, h3, h4, h5⟩
theorem VT.vtx (h : VT w0 K L0 v X Y w) : VTX w0 K L0 v X Y [] w := by
  obtain ⟨S, R, L, T, h1, h2, h3, h4, h5⟩ := h
  exact ⟨S, R, L, T, h1.own, h1, h2, h3, h4, h5⟩
theorem Own.under (h : Own ⟨w0, S⟩ w (rs ++ L)) : Own ⟨w0, S⟩ w L :=
  ⟨h.below, fun p hp => h.rows p (List.mem_append_right _ hp), (List.pairwise_append.1 h.apart).2.1, h.maps, fun m hm p hp => h.offmaps m hm p (List.mem_append_right _ hp)⟩
theorem VTX.grow (h : VTX w0 K L0 v X Y rs w) : ∃ S N, Own ⟨w0, S⟩ w (rs ++ N) ∧ (∀ b x, (b, x) ∈ K → (b, x) ∈ S) ∧ ∀ w' rs', Own ⟨w0, S⟩ w' (rs' ++ N) → VTX w0 K L0 v X Y rs' w' := by
  obtain ⟨S, R, L, T, h0, h1, h2, h3, h4, h5⟩ := h
  exact ⟨S, R ++ L, h0, fun b x hb => (h5 b x hb).1, fun w' rs' hO => ⟨S, R, L, T, hO, h1.base hO.under fun b x hx _ => hx, h2, h3, h4, h5⟩⟩
theorem VTX.turnK {b : Nat} {x : Obj} (h : VTX w0 ((b, x) :: K) L0 v X Y rs w) (hK : ∀ c y, (c, y) ∈ K → c ≠ b) (y : Obj) : VTX w0 ((b, y) :: K) L0 v X Y rs (setBlock w b y) := by
  obtain ⟨S, R, L, T, h0, h1, h2, h3, h4, h5⟩ := h
  obtain ⟨hb, hb2, hb3⟩ := h5 b x (List.mem_cons_self ..)
  have hO := h0.setB hb y
  refine ⟨upd S b y, R, L, T, hO, h1.base hO.under fun c z hz hc => upd_other (b := b) hz (fun e => hb2 (by rw [← e]; exact hc)) _, h2.mono (fun c z hc hz => upd_other (b := b) hz (fun e => hb3 (by rw [← e]; exact hc)) _) (fun _ hx => hx), h3, h4, fun c z hc => ?_⟩
  rcases List.mem_cons.1 hc with e | hc
  · obtain ⟨rfl, rfl⟩ := Prod.mk.inj e
    exact ⟨upd_same hb _, hb2, hb3⟩
  · obtain ⟨q1, q2, q3⟩ := h5 c z (List.mem_cons_of_mem _ hc)
    exact ⟨upd_other q1 (hK c z hc) _, q2, q3⟩
theorem VTX.freeze (h : VTX w0 K L0 v X Y (⟨e, size, vv, n, xs⟩ :: rs) w) :
    (vv = .slice none 0 0 ∧ n = 0 ∧ xs = [] ∧ VTX w0 K L0 v X Y rs w) ∨ ∃ g cap cur, vv = .slice (some ⟨g, 0, none⟩) n cap ∧ n ≤ cap ∧ cap ≤ maxLen ∧ cur.size = cap * size ∧ cur.toList.take (n * size) = xs ∧ w0.heap.size ≤ g ∧ VTX w0 ((g, .cells cur e (0, 0)) :: K) L0 v X Y rs w ∧ ∀ b x, (b, x) ∈ K → b ≠ g := by
  obtain ⟨S, R, L, T, h0, h1, h2, h3, h4, h5⟩ := h
  have h0' : Own ⟨w0, S⟩ w (⟨e, size, vv, n, xs⟩ :: (rs ++ (R ++ L))) := h0
  have hrow := h0'.rows _ (List.mem_cons_self ..)
  have hoff := fun m (hm : m ∈ S) => h0'.offmaps m hm _ (List.mem_cons_self ..)
  rcases hrow.2 with ⟨e1, e2⟩ | ⟨g, cap, cur, e1, hg, hb, k1, k2, k3, k4⟩
  · left
    have hx : xs = [] := List.eq_nil_of_length_eq_zero (by have := hrow.1; rw [show n = 0 from e2, Nat.zero_mul] at this; exact this)
    exact ⟨e1, e2, hx, S, R, L, T, h0'.tail, h1, h2, h3, h4, h5⟩
  · right
    have e1' : vv = .slice (some ⟨g, 0, none⟩) n cap := e1
    have hne : ∀ m ∈ S, m.1 ≠ g := fun m hm em => hoff m hm (by show vv.ownBlock = some m.1; rw [e1', em]; rfl)
    have hO : Own ⟨w0, (g, .cells cur e (0, 0)) :: S⟩ w (rs ++ (R ++ L)) := by
      refine ⟨h0'.below, h0'.tail.rows, h0'.tail.apart, fun m hm => ?_, fun m hm p hp => ?_⟩
      · rcases List.mem_cons.1 hm with rfl | hm
        · exact ⟨hg, hb⟩
        · exact h0'.maps m hm
      · rcases List.mem_cons.1 hm with rfl | hm
        · intro em
          have := (List.pairwise_cons.1 h0'.apart).1 p hp
          rw [show (⟨e, size, vv, n, xs⟩ : Rw).v = vv from rfl, e1'] at this
          rcases this with k | k
          · cases k
          · exact k em.symm
        · exact h0'.tail.offmaps m hm p hp
    have hgv : g ∉ v :: X.hm :: X.t :: T.foot := fun hm => by
      obtain ⟨o, ho⟩ := h1.mem hm
      exact hne _ ho rfl
    have hgy : g ∉ Y.foot := fun hm => by
      obtain ⟨o, ho⟩ := h2.mem g hm
      exact hne _ ho rfl
    refine ⟨g, cap, cur, e1', k1, k2, k3, k4, hg, ⟨_, R, L, T, hO, h1.base hO.under fun b x hx _ => List.mem_cons_of_mem _ hx, h2.mono (fun b x _ hx => List.mem_cons_of_mem _ hx) (fun _ hx => hx), h3, h4, fun b x hb => ?_⟩, fun b x hb => hne (b, x) (h5 b x hb).1⟩
    rcases List.mem_cons.1 hb with em | hb
    · obtain ⟨rfl, rfl⟩ := Prod.mk.inj em
      exact ⟨List.mem_cons_self .., hgv, hgy⟩
    · obtain ⟨q1, q2, q3⟩ := h5 b x hb
      exact ⟨List.mem_cons_of_mem _ q1, q2, q3⟩
theorem VTX.thaw (h : VTX w0 ((g, .cells cur e (0, 0)) :: K) L0 v X Y rs w) (hK : ∀ b x, (b, x) ∈ K → b ≠ g) (k1 : n ≤ cap) (k2 : cap ≤ maxLen) (k3 : cur.size = cap * size) (k4 : cur.toList.take (n * size) = xs) (hl : xs.length = n * size) :
    VTX w0 K L0 v X Y (⟨e, size, .slice (some ⟨g, 0, none⟩) n cap, n, xs⟩ :: rs) w := by
  obtain ⟨S, R, L, T, h0, h1, h2, h3, h4, h5⟩ := h
  obtain ⟨hb, hb2, hb3⟩ := h5 g _ (List.mem_cons_self ..)
  have hsub : ∀ m, m ∈ S.filter (fun m => decide (m.1 ≠ g)) → m ∈ S ∧ m.1 ≠ g := fun m hm => by
    obtain ⟨q1, q2⟩ := List.mem_filter.1 hm
    exact ⟨q1, of_decide_eq_true q2⟩
  have hin : ∀ b x, (b, x) ∈ S → b ≠ g → (b, x) ∈ S.filter (fun m => decide (m.1 ≠ g)) := fun b x hx hne => List.mem_filter.2 ⟨hx, decide_eq_true hne⟩
  have hO : Own ⟨w0, S.filter (fun m => decide (m.1 ≠ g))⟩ w (⟨e, size, .slice (some ⟨g, 0, none⟩) n cap, n, xs⟩ :: (rs ++ (R ++ L))) := by
    refine ⟨h0.below, fun p hp => ?_, List.pairwise_cons.2 ⟨fun q hq => ?_, h0.apart⟩, fun m hm => h0.maps m (hsub m hm).1, fun m hm p hp => ?_⟩
    · rcases List.mem_cons.1 hp with rfl | hp
      · exact ⟨hl, .inr ⟨g, cap, cur, rfl, (h0.maps _ hb).1, (h0.maps _ hb).2, k1, k2, k3, k4⟩⟩
      · exact h0.rows p hp
    · right
      intro em
      exact h0.offmaps _ hb q hq em.symm
    · rcases List.mem_cons.1 hp with rfl | hp
      · intro em
        have em' : some g = some m.1 := em
        exact (hsub m hm).2 (Option.some.inj em').symm
      · exact h0.offmaps m (hsub m hm).1 p hp
  refine ⟨_, R, L, T, hO, h1.base (hO.tail.under) fun b x hx hc => hin b x hx fun em => hb2 (em ▸ hc), h2.mono (fun b x hc hx => hin b x hx fun em => hb3 (em ▸ hc)) (fun _ hx => hx), h3, h4, fun b x hx => ?_⟩
  obtain ⟨q1, q2, q3⟩ := h5 b x (List.mem_cons_of_mem _ hx)
  exact ⟨hin b x q1 (hK b x hx), q2, q3⟩
end
end Go.Proofs.YtkhnkidggcjfeaaGreatDoor
end
section
namespace Go.Proofs.YtkhnkidggcjfeaaGreatDoor
open Go.RowKit
open Go.ChangeMaps (setBlock)
def bitN (n : Int) (k : Nat) : Bool := bits .and .i64 (n / 2 ^ k) 1 == 1
def sel (b : Nat → Bool) : Nat → List (List UInt8 × Int)
  | 0 => []
  | k + 1 => sel b k ++ (if b k then (P3[k]?).toList else [])
def rsOf (l : List Int) : Nat → List (Int × List Int)
  | 0 => []
  | k + 1 => rsOf l k ++ [((k : Int) + 1, (sel (bitN (l.getD k 0)) 3).map (·.2))]
abbrev KT (s : ByteArray) : Value := .string s
def names3 : Obj := .cells #[.string (toB pFa), .string (toB pFb), .string (toB pFc)] 9
def CntAt (o : Obj) (c : Int → Int) : Prop := ∃ m, MapO KT o m ∧ ∀ x ∈ P3, (look m (toB x.1)).getD (.int .i64 0) = .int .i64 (c x.2)
end Go.Proofs.YtkhnkidggcjfeaaGreatDoor
end
section
namespace Go.Proofs.YtkhnkidggcjfeaaGreatDoor
open Go.RowKit
open Go.ChangeMaps (setBlock)
section
variable {w0 w w' : World} {K : Blocks} {L0 rs : List Rw} {v : Nat} {X : VX} {Y : Tab}
theorem VTX.nilrow (h : VTX w0 K L0 v X Y rs w) (e size : Nat) : VTX w0 K L0 v X Y (⟨e, size, .slice none 0 0, 0, []⟩ :: rs) w := by
  obtain ⟨S, N, hO, _, back⟩ := h.grow
  exact back _ _ (Own.nil hO e size)
theorem VTX.subK {K' : Blocks} (h : VTX w0 K L0 v X Y rs w) (hs : ∀ b x, (b, x) ∈ K' → (b, x) ∈ K) : VTX w0 K' L0 v X Y rs w := by
  obtain ⟨S, R, L, T, h0, h1, h2, h3, h4, h5⟩ := h
  exact ⟨S, R, L, T, h0, h1, h2, h3, h4, fun b x hb => h5 b x (hs b x hb)⟩
end
def SpawnPost (w0 : World) (K : Blocks) (M v : Nat) (Y : Tab) (q : List (List UInt8 × Int)) (rs : List Rw) (w' : World) : Prop :=
  ∃ X' Y', Y'.tb = Y.tb ∧ Y'.last = Y.last + 1 ∧ runsM Y' = runsM Y ++ [(Y.last + 1, q.map (·.2))] ∧ EndOk (M + 3) X' Y' ∧ VTX w0 K [] v X' Y' rs w'
section
variable {w0 w w' : World} {K : Blocks} {rs : List Rw} {v M : Nat} {X : VX} {Y : Tab}
end
end Go.Proofs.YtkhnkidggcjfeaaGreatDoor
end
section
namespace Go.Proofs.YtkhnkidggcjfeaaGreatDoor
open Go.RowKit
open Go.ChangeMaps (setBlock)
end Go.Proofs.YtkhnkidggcjfeaaGreatDoor
end
section
namespace Go.Proofs.YtkhnkidggcjfeaaGreatDoor
open Go.RowKit
end Go.Proofs.YtkhnkidggcjfeaaGreatDoor
end
section
namespace Go.Proofs.YtkhnkidggcjfeaaGreatDoor
open Go.RowKit
section
variable {w0 w w' : World} {K : Blocks} {L0 rs : List Rw} {v : Nat} {X : VX} {Y : Tab}
theorem VTX.later (h : VTX w0 K L0 v X Y rs w) (hb : Below w.heap.size w w') : VTX w0 K L0 v X Y rs w' := by
  obtain ⟨S, N, hO, _, back⟩ := h.grow
  exact back _ _ (hO.later hb)
end
end Go.Proofs.YtkhnkidggcjfeaaGreatDoor
end
section
namespace Go.Proofs.YtkhnkidggcjfeaaGreatDoor
open Go.RowKit
abbrev Nm := List UInt8
def leN (x y : Nm) : Bool := decide (x ≤ y)
theorem leN_trans (a b c : Nm) : leN a b = true → leN b c = true → leN a c = true := by
  unfold leN; simp only [decide_eq_true_eq]; exact fun h k => List.le_trans h k
theorem leN_total (a b : Nm) : (leN a b || leN b a) = true := by
  unfold leN; simp only [Bool.or_eq_true, decide_eq_true_eq]; exact List.le_total a b
theorem leN_anti {a b : Nm} (h : leN a b = true) (k : leN b a = true) : a = b := by
  unfold leN at h k; simp only [decide_eq_true_eq] at h k; exact List.le_antisymm h k
def insN (x : Nm) : List Nm → List Nm
  | [] => [x]
  | y :: r => if leN x y then x :: y :: r else y :: insN x r
def sortN : List Nm → List Nm
  | [] => []
  | x :: r => insN x (sortN r)
def InOrder (l : List Nm) : Prop := l.Pairwise fun a b => leN a b = true
theorem insN_perm (x : Nm) (l : List Nm) : (insN x l).Perm (x :: l) := by
  induction l with
  | nil => exact List.Perm.refl _
  | cons y r ih =>
    unfold insN
    split
    · exact List.Perm.refl _
    · exact (ih.cons y).trans (List.Perm.swap x y r)
theorem sortN_perm (l : List Nm) : (sortN l).Perm l := by
  induction l with
  | nil => exact List.Perm.refl _
  | cons x r ih => exact (insN_perm x _).trans (ih.cons x)
theorem insN_order (x : Nm) {l : List Nm} (h : InOrder l) : InOrder (insN x l) := by
  induction l with
  | nil => exact List.pairwise_singleton ..
  | cons y r ih =>
    have h' := List.pairwise_cons.1 h
    unfold insN
    split
    · rename_i hx
      refine List.pairwise_cons.2 ⟨fun z hz => ?_, h⟩
      rcases List.mem_cons.1 hz with rfl | hz
      · exact hx
      · exact leN_trans _ _ _ hx (h'.1 z hz)
    · rename_i hx
      have hyx : leN y x = true := by
        have := leN_total x y
        simp only [Bool.or_eq_true] at this
        exact this.resolve_left hx
      refine List.pairwise_cons.2 ⟨fun z hz => ?_, ih h'.2⟩
      rcases List.mem_cons.1 ((insN_perm x r).mem_iff.1 hz) with rfl | hz
      · exact hyx
      · exact h'.1 z hz
theorem sortN_order (l : List Nm) : InOrder (sortN l) := by
  induction l with
  | nil => exact List.Pairwise.nil
  | cons x r ih => exact insN_order x ih
theorem order_uniq {l m : List Nm} (hp : l.Perm m) (hl : InOrder l) (hm : InOrder m) : l = m :=
  hp.eq_of_pairwise (fun a b _ _ h k => leN_anti h k) hl hm
theorem sortN_eq {l m : List Nm} (hp : l.Perm m) : sortN l = sortN m := order_uniq ((sortN_perm l).trans (hp.trans (sortN_perm m).symm)) (sortN_order l) (sortN_order m)
theorem merge_sortN (l : List Nm) : (l.mergeSort fun x y => decide (x ≤ y)) = sortN l :=
  order_uniq ((List.mergeSort_perm l _).trans (sortN_perm l).symm) (List.pairwise_mergeSort leN_trans leN_total l) (sortN_order l)
theorem mem_sortN {x : Nm} {l : List Nm} : x ∈ sortN l ↔ x ∈ l := (sortN_perm l).mem_iff
theorem sortN_length (l : List Nm) : (sortN l).length = l.length := (sortN_perm l).length_eq
theorem sortN_nodup {l : List Nm} : (sortN l).Nodup ↔ l.Nodup := (sortN_perm l).nodup_iff
structure GU where
  name : Nm
  fi : List Nm
  af : List Nm
  be : List Nm
  re : List Nm
  wa : List Nm
  pa : List Nm
  ret : Int
def GU.zero : GU := ⟨[], [], [], [], [], [], [], 0⟩
def GU.lists (u : GU) : List (List Nm) := [u.fi, u.af, u.be, u.re, u.wa, u.pa]
def namesU (us : List GU) : List Nm := us.map (·.name)
def findU (us : List GU) (n : Nm) : GU := (us.find? fun u => decide (u.name = n)).getD GU.zero
def lacksU (us : List GU) (n : Nm) : Bool := (findU us n).re.any (fun x => !decide (x ∈ namesU us)) || (findU us n).pa.any (fun x => !decide (x ∈ namesU us))
def standU (us : List GU) (n : Nm) (o : GU) : Bool := decide (o.name ∈ (findU us n).af) || decide (o.name ∈ (findU us n).re) || decide (n ∈ o.be)
def aheadU (us : List GU) (n : Nm) : List Nm := sortN ((us.filter (standU us n)).map (·.name))
def freeN (beh : Nm → List Nm) (left : List Nm) (n : Nm) : Bool := !((beh n).any fun x => decide (x ∈ left))
def idxF (p : Nm → Bool) (l : List Nm) : Int := match l.findIdx? p with
  | none => -1
  | some k => (k : Int)
def placeN (beh : Nm → List Nm) : Nat → List Nm → List Nm → List Nm × List Nm
  | 0, ord, left => (ord, left)
  | f + 1, ord, left => match left.findIdx? (freeN beh left) with
    | none => (ord, left)
    | some k => placeN beh f (ord ++ [left.getD k []]) (left.eraseIdx k)
def placeU (us : List GU) : List Nm × List Nm := placeN (aheadU us) us.length [] (sortN (namesU us))
def badU (us : List GU) : Bool := (sortN (namesU us)).any (lacksU us)
def errU (us : List GU) : Int :=
  if 16 < us.length then 22 else if ¬ (namesU us).Nodup then 9 else if badU us then 16 else if (placeU us).2 ≠ [] then 19 else 0
theorem findU_mem {us : List GU} (hd : (namesU us).Nodup) {u : GU} (hu : u ∈ us) : findU us u.name = u := by
  unfold findU
  induction us with
  | nil => cases hu
  | cons x r ih =>
    have hd' := List.nodup_cons.1 hd
    rw [List.find?_cons]
    by_cases hx : x.name = u.name
    · rw [decide_eq_true hx]
      rcases List.mem_cons.1 hu with rfl | hu
      · rfl
      · exact absurd (show x.name ∈ r.map GU.name from by rw [hx]; exact List.mem_map.2 ⟨u, hu, rfl⟩) hd'.1
    · rw [decide_eq_false hx]
      rcases List.mem_cons.1 hu with rfl | hu
      · exact absurd rfl hx
      · exact ih hd'.2 hu
theorem mem_names {us : List GU} {n : Nm} : n ∈ namesU us ↔ ∃ u ∈ us, u.name = n := List.mem_map
theorem findU_of {us : List GU} (hd : (namesU us).Nodup) {n : Nm} (hn : n ∈ namesU us) : findU us n ∈ us ∧ (findU us n).name = n := by
  obtain ⟨u, hu, rfl⟩ := mem_names.1 hn
  rw [findU_mem hd hu]
  exact ⟨hu, rfl⟩
theorem findU_none {us : List GU} {n : Nm} (hn : n ∉ namesU us) : findU us n = GU.zero := by
  unfold findU
  rw [List.find?_eq_none.2 fun u hu => by
    simp only [decide_eq_true_eq]
    exact fun e => hn (mem_names.2 ⟨u, hu, e⟩)]
  rfl
/-! ### How units are placed -/
theorem eraseIdx_cons_perm {α : Type} : ∀ (l : List α) (k : Nat) (h : k < l.length), (l[k] :: l.eraseIdx k).Perm l := by
  intro l
  induction l with
  | nil => intro k h; exact absurd h (Nat.not_lt_zero _)
  | cons x r ih =>
    intro k h
    cases k with
    | zero => exact List.Perm.refl _
    | succ k => exact (List.Perm.swap x _ _).trans ((ih k (by simpa using h)).cons x)
theorem idxF_cases (p : Nm → Bool) (l : List Nm) : (l.findIdx? p = none ∧ idxF p l = -1 ∧ ∀ x ∈ l, p x = false) ∨ ∃ k, ∃ h : k < l.length, l.findIdx? p = some k ∧ idxF p l = (k : Int) ∧ p l[k] = true ∧ ∀ j (hj : j < l.length), j < k → p l[j] = false := by
  unfold idxF
  cases h : l.findIdx? p with
  | none => exact .inl ⟨rfl, rfl, by simpa using h⟩
  | some k =>
    obtain ⟨h1, h2, h3⟩ := List.findIdx?_eq_some_iff_getElem.1 h
    exact .inr ⟨k, h1, rfl, rfl, h2, fun j hj hjk => by simpa using h3 j hjk⟩
def Placed (beh : Nm → List Nm) (ord left : List Nm) : Prop := ∀ a n b, ord = a ++ n :: b → ∀ x ∈ beh n, x ∉ n :: b ++ left
theorem placeN_inv (beh : Nm → List Nm) : ∀ (f : Nat) (ord left : List Nm), Placed beh ord left → left.Nodup → (∀ x ∈ ord, x ∉ left) →
    Placed beh (placeN beh f ord left).1 (placeN beh f ord left).2 ∧ ((placeN beh f ord left).1 ++ (placeN beh f ord left).2).Perm (ord ++ left) ∧ (left.length ≤ f → ∀ x ∈ (placeN beh f ord left).2, freeN beh (placeN beh f ord left).2 x = false) := by
  intro f
  induction f with
  | zero =>
    intro ord left h1 _ _
    refine ⟨h1, List.Perm.refl _, fun hl x hx => ?_⟩
    have : left = [] := List.eq_nil_of_length_eq_zero (by omega)
    subst this
    cases hx
  | succ f ih =>
    intro ord left h1 h2 h3
    rcases idxF_cases (freeN beh left) left with ⟨e1, _, e3⟩ | ⟨k, hk, e1, _, e3, _⟩
    · have e5 : placeN beh (f + 1) ord left = (ord, left) := by rw [placeN, e1]
      rw [e5]
      exact ⟨h1, List.Perm.refl _, fun _ x hx => e3 x hx⟩
    · have e5 : placeN beh (f + 1) ord left = placeN beh f (ord ++ [left.getD k []]) (left.eraseIdx k) := by rw [placeN, e1]
      rw [e5]
      have hg : left.getD k [] = left[k] := by rw [List.getD, List.getElem?_eq_getElem hk]; rfl
      rw [hg]
      have hperm : (left[k] :: left.eraseIdx k).Perm left := eraseIdx_cons_perm left k hk
      have hnd := (hperm.nodup_iff).2 h2
      have hsub : ∀ x ∈ left.eraseIdx k, x ∈ left := fun x hx => hperm.mem_iff.1 (List.mem_cons_of_mem _ hx)
      have hpl : Placed beh (ord ++ [left[k]]) (left.eraseIdx k) := by
        intro a n b e x hx hm
        rcases List.eq_nil_or_concat b with rfl | ⟨b', y, e9⟩
        · have e2 : ord = a ∧ [left[k]] = [n] := List.append_inj' e rfl
          have e3' : left[k] = n := by simpa using e2.2
          subst e3'
          unfold freeN at e3
          simp only [Bool.not_eq_true', List.any_eq_false, decide_eq_true_eq] at e3
          exact e3 x hx (hperm.mem_iff.1 (by simpa using hm))
        · rw [List.concat_eq_append] at e9
          subst e9
          have e2 : ord = a ++ n :: b' ∧ [left[k]] = [y] := List.append_inj' (by rw [e]; simp) rfl
          have e3' : left[k] = y := by simpa using e2.2
          refine h1 a n b' e2.1 x hx ?_
          rcases List.mem_append.1 hm with hm | hm
          · rcases List.mem_cons.1 hm with hm | hm
            · exact List.mem_append_left _ (List.mem_cons.2 (.inl hm))
            · rcases List.mem_append.1 hm with hm | hm
              · exact List.mem_append_left _ (List.mem_cons_of_mem _ hm)
              · have : x = left[k] := by rw [e3']; simpa using hm
                exact List.mem_append_right _ (this ▸ List.getElem_mem hk)
          · exact List.mem_append_right _ (hsub x hm)
      obtain ⟨g1, g2, g3⟩ := ih (ord ++ [left[k]]) (left.eraseIdx k) hpl (List.nodup_cons.1 hnd).2 (fun x hx hm => by
        rcases List.mem_append.1 hx with hx | hx
        · exact h3 x hx (hsub x hm)
        · have : x = left[k] := by simpa using hx
          exact (List.nodup_cons.1 hnd).1 (this ▸ hm))
      refine ⟨g1, g2.trans ?_, fun hl => g3 (by rw [List.length_eraseIdx, if_pos hk]; omega)⟩
      rw [List.append_assoc]
      exact List.Perm.append_left _ hperm
def ordU (us : List GU) : List Nm := (placeU us).1
theorem errU_ok {us : List GU} (h : errU us = 0) : us.length ≤ 16 ∧ (namesU us).Nodup ∧ badU us = false ∧ (placeU us).2 = [] := by
  unfold errU at h
  split at h
  · cases h
  · split at h
    · cases h
    · split at h
      · cases h
      · split at h
        · cases h
        · rename_i h1 h2 h3 h4
          exact ⟨by omega, Decidable.not_not.1 h2, by simpa using h3, Decidable.not_not.1 h4⟩
theorem ordU_perm {us : List GU} (h : errU us = 0) : (ordU us).Perm (namesU us) := by
  obtain ⟨_, h2, _, h4⟩ := errU_ok h
  have := (placeN_inv (aheadU us) us.length [] (sortN (namesU us)) (fun a n b e => by simp at e) (sortN_nodup.2 h2) (fun x hx => by cases hx)).2.1
  have h4' : (placeN (aheadU us) us.length [] (sortN (namesU us))).2 = [] := h4
  rw [h4', List.append_nil, List.nil_append] at this
  exact this.trans (sortN_perm _)
/-! ### What leans, what is pulled -/
inductive LeanR (us : List GU) (some : List Nm) : Nm → Prop
  | base {n : Nm} : n ∈ namesU us → n ∈ some → LeanR us some n
  | step {u : GU} {x : Nm} : u ∈ us → (x ∈ u.re ∨ x ∈ u.pa) → LeanR us some x → LeanR us some u.name
inductive PullR (us : List GU) (some : List Nm) : Nm → Prop
  | base {n : Nm} : n ∈ namesU us → n ∈ some → PullR us some n
  | step {u : GU} {x : Nm} : u ∈ us → x ∈ u.re → PullR us some u.name → PullR us some x
structure Just (l : List Nm) (p : Nm → Prop) : Prop where
  order : InOrder l
  once : l.Nodup
  mem : ∀ n, n ∈ l ↔ p n
end Go.Proofs.YtkhnkidggcjfeaaGreatDoor
end
section
namespace Go.Proofs.YtkhnkidggcjfeaaGreatDoor
open Go.RowKit
open Go.ChangeMaps (setBlock)
theorem contains_any (v : Value) (ls : List Nm) (x : Nm) (w : World) (h : Sts w v ls) : Calls Tryz.prog 87 #[v, .string (toB x)] w fun e w' => e = .returned (.bool (decide (x ∈ ls))) ∧ w = w' := by
  obtain ⟨a, c, rfl, h2, h3, h4⟩ := h
  by_cases hn : 0 < ls.length
  · obtain ⟨b, o, rfl, hb, hc⟩ := h4 hn
    refine (Tryz.slices_Contains_string b o ls.length c (ls.map toB) (toB x) w (by simp) (by unfold maxLen at h3; omega) (fun j hj => ?_)).mono ?_
    · have hj' : j < ls.length := by simpa using hj
      rw [hc j hj']
      simp [List.getD, hj']
    · rintro e w' ⟨rfl, rfl⟩
      refine ⟨?_, rfl⟩
      have e1 : Lib.containsS ((ls.map toB).take ls.length) (toB x) = decide (x ∈ ls) := by
        rw [show (ls.map toB).take ls.length = ls.map toB from by rw [← List.map_take, List.take_length]]
        by_cases hx : x ∈ ls
        · rw [decide_eq_true hx]
          exact (Lib.containsS_iff _ _).2 (List.mem_map.2 ⟨x, hx, rfl⟩)
        · rw [decide_eq_false hx]
          rw [← Bool.not_eq_true]
          intro h9
          obtain ⟨y, hy, e⟩ := List.mem_map.1 ((Lib.containsS_iff _ _).1 h9)
          exact hx (toB_inj e ▸ hy)
      rw [e1]
  · have hz : ls = [] := List.eq_nil_of_length_eq_zero (by omega)
    subst hz
    refine (Tryz.slices_Contains_string_empty a c (toB x) w).mono ?_
    rintro e w' ⟨rfl, rfl⟩
    exact ⟨by simp, rfl⟩
/-! ### Rows of texts that are the call's own -/
section
variable {W0 : Base} {w : World} {L : List Rw} {v : Value} {ls : List Nm}
theorem row_form (h : Own W0 w (rowSs v ls :: L)) : (v = .slice none 0 0 ∧ ls = []) ∨ ∃ g cap cur, v = .slice (some ⟨g, 0, none⟩) ls.length cap ∧ W0.world.heap.size ≤ g ∧ w.heap[g]? = some (.cells cur 9 (0, 0)) ∧ ls.length ≤ cap ∧ cap ≤ maxLen ∧ cur.size = cap * 1 ∧ cur.toList.take ls.length = ls.map encStr := by
  have hown : w.ownsRow W0.world.heap.size 9 1 v ls.length (strs ls) := h.head
  rcases hown.2 with ⟨hv, hn⟩ | ⟨g, cap, cur, hv, hg, hb, hn, hcap, hsz, htk⟩
  · exact .inl ⟨hv, List.eq_nil_of_length_eq_zero hn⟩
  · exact .inr ⟨g, cap, cur, hv, hg, hb, hn, hcap, hsz, by rw [Nat.mul_one] at htk; exact htk⟩
theorem row_put {g cap n : Nat} {os : Array Obj} {cur : Array Value} {ts : List Nm} (h : Own W0 w (rowSs (.slice (some ⟨g, 0, none⟩) ls.length cap) ls :: L)) (hl : ts.length = ls.length) (hg : W0.world.heap.size ≤ g) (hb : w.heap[g]? = some (.cells cur 9 (0, 0))) (hn : ls.length ≤ cap) (hcap : cap ≤ maxLen) (hsz : cur.size = cap * 1) :
    Own W0 (Sort.grow (Sort.putRow encStr (Sort.ahead w n) g 0 ts.toArray) os) (rowSs (.slice (some ⟨g, 0, none⟩) ts.length cap) ts :: L) := by
  have h' : Own W0 w (⟨9, 1, .slice (some ⟨g, 0, none⟩) ls.length cap, ls.length, strs ls⟩ :: L) := h
  have hrow := ownsRow_sorted (n := n) (os := os) hl hg hb hn hcap hsz
  rw [← hl] at hrow
  exact Own.grown (h := h') (v' := .slice (some ⟨g, 0, none⟩) ts.length cap) (n' := ts.length) (ys := ts.map encStr) hrow (grownBy_sorted _) (.inl rfl)
theorem row_take {g n cap : Nat} (h : Own W0 w (rowSs (.slice (some ⟨g, 0, none⟩) ls.length cap) ls :: L)) (k : Nat) (hk : k ≤ ls.length) : Own W0 w (rowSs (.slice (some ⟨g, 0, none⟩) (ls.take k).length cap) (ls.take k) :: L) := by
  have hlen : (ls.take k).length = k := by rw [List.length_take]; omega
  have hown : w.ownsRow W0.world.heap.size 9 1 (.slice (some ⟨g, 0, none⟩) ls.length cap) ls.length (strs ls) := h.head
  have hap := List.pairwise_cons.1 h.apart
  refine ⟨h.below, fun p hp => ?_, List.pairwise_cons.2 ⟨fun q hq => hap.1 q hq, hap.2⟩, h.maps, fun m hm p hp => ?_⟩
  · rcases List.mem_cons.1 hp with rfl | hp
    · refine ⟨by simp [strs], ?_⟩
      rcases hown.2 with ⟨hv, hn⟩ | ⟨g', cap', cur, hv, hg, hb, hn, hcap, hsz, htk⟩
      · cases hv
      · refine .inr ⟨g', cap', cur, ?_, hg, hb, by show (ls.take k).length ≤ _; omega, hcap, hsz, ?_⟩
        · injection hv with e1 e2 e3
          show Value.slice _ _ _ = Value.slice _ _ _
          rw [e1, e3]
        · show List.take ((ls.take k).length * 1) cur.toList = strs (ls.take k)
          rw [Nat.mul_one, hlen]
          rw [Nat.mul_one] at htk
          have e9 : cur.toList.take k = (cur.toList.take ls.length).take k := by rw [List.take_take]; congr 1; omega
          rw [e9, htk]
          simp [strs]
    · exact h.rows p (List.mem_cons_of_mem _ hp)
  · rcases List.mem_cons.1 hp with rfl | hp
    · exact h.offmaps m hm (rowSs (.slice (some ⟨g, 0, none⟩) ls.length cap) ls) (List.mem_cons_self ..)
    · exact h.offmaps m hm p (List.mem_cons_of_mem _ hp)
theorem sortS_row (h : Own W0 w (rowSs v ls :: L)) (hl : ls.length ≤ 1000000) :
    Calls Tryz.prog 69 #[v] w fun e w' => e = .returned (.tuple #[]) ∧ Own W0 w' (rowSs v (sortN ls) :: L) := by
  rcases row_form h with ⟨rfl, rfl⟩ | ⟨g, cap, cur, rfl, hg, hb, hn, hcap, hsz, htk⟩
  · refine (AnyM.slices_Sort_string_none Tryz.sort69 none 0 w).mono ?_
    rintro e w' ⟨rfl, rfl⟩
    exact ⟨rfl, h⟩
  · refine (AnyM.slices_Sort_string Tryz.sort69 g 0 cap ls w (holds_of_block hb htk) (lt_of_heap hb) (by omega)).mono ?_
    rintro e w' ⟨rfl, n, os, rfl⟩
    refine ⟨rfl, ?_⟩
    rw [merge_sortN]
    have := row_put (n := n) (os := os) h (sortN_length ls) hg hb hn hcap hsz
    rw [sortN_length] at this
    show Own W0 _ (⟨9, 1, _, (sortN ls).length, strs (sortN ls)⟩ :: L)
    rw [sortN_length]
    have h9 : Own W0 _ (⟨9, 1, .slice (some ⟨g, 0, none⟩) ls.length cap, (sortN ls).length, strs (sortN ls)⟩ :: L) := this
    rwa [sortN_length] at h9
theorem delS_row (h : Own W0 w (rowSs v ls :: L)) (k : Nat) (hk : k < ls.length) (hl : ls.length ≤ 1000000) :
    Calls Tryz.prog 90 #[v, .int .i64 (k : Int), .int .i64 ((k : Int) + 1)] w fun e w' => ∃ v', e = .returned v' ∧ Own W0 w' (rowSs v' (ls.eraseIdx k) :: L) := by
  rcases row_form h with ⟨rfl, rfl⟩ | ⟨g, cap, cur, rfl, hg, hb, hn, hcap, hsz, htk⟩
  · exact absurd hk (Nat.not_lt_zero _)
  · have hc := Tryz.slices_Delete_string g 0 cap k (k + 1) ls w (holds_of_block hb htk) hn (by unfold maxLen at hcap; omega) (Nat.le_succ k) hk
    rw [show ((k + 1 : Nat) : Int) = (k : Int) + 1 from by omega] at hc
    refine hc.mono ?_
    rintro e w' ⟨rfl, n, rfl⟩
    rw [show k + 1 - k = 1 from by omega]
    refine ⟨_, rfl, ?_⟩
    have e1 : ls.take k ++ ls.drop (k + 1) = ls.eraseIdx k := (List.eraseIdx_eq_take_drop_succ ls k).symm
    rw [e1]
    have hel : (ls.eraseIdx k).length = ls.length - 1 := by rw [List.length_eraseIdx, if_pos hk]
    have hl2 : (ls.eraseIdx k ++ List.replicate 1 []).length = ls.length := by rw [List.length_append, hel]; simp; omega
    have h1 := row_put (n := n) (os := #[]) h hl2 hg hb hn hcap hsz
    rw [Sort.grow_empty] at h1
    have h2 := row_take (n := 0) h1 (ls.length - 1) (by omega)
    have e2 : (ls.eraseIdx k ++ List.replicate 1 ([] : Nm)).take (ls.length - 1) = ls.eraseIdx k := by rw [← hel, List.take_left']; rfl
    rw [e2] at h2
    rw [← hel]
    exact h2
end
theorem infoS : (Tryz.prog.info? 9).map (fun i => (i.zero, i.size, i.bytes)) = some (some (.string ⟨#[]⟩), 1, 16) := by kernel_rfl
theorem infoS_ex : ∃ i, Tryz.prog.info? 9 = some i ∧ i.zero = some (.string ⟨#[]⟩) ∧ i.size = 1 ∧ i.bytes = 16 := by
  have := infoS
  obtain ⟨i, h1, h2⟩ := Option.map_eq_some_iff.1 this
  simp only [Prod.mk.injEq] at h2
  exact ⟨i, h1, h2.1, h2.2.1, h2.2.2⟩
theorem Sts.src {w : World} {a : Option Addr} {c n : Nat} {ls : List Nm} (h : Sts w (.slice a n c) ls) (ha : a ≠ none) : n = ls.length ∧ ∃ ad, a = some ad ∧ Src w (.slice (some ad) n c) ls.length (strs ls) := by
  obtain ⟨a', c', h1, h2, h3, h4⟩ := h
  injection h1 with e1 e2 e3
  subst e1 e2 e3
  refine ⟨rfl, ?_⟩
  cases a with
  | none => exact absurd rfl ha
  | some ad =>
    refine ⟨ad, rfl, .inr ⟨ad, c, rfl, fun j u hj => ?_, fun u hu => ?_⟩⟩
    · have hjl : j < ls.length := by
        have := (List.getElem?_eq_some_iff.1 hj).1
        simpa [strs] using this
      obtain ⟨b, o, e, _, hc⟩ := h4 (by omega)
      injection e with e
      subst e
      rw [Addr.add_mid, hc j hjl]
      rw [strs_at ls j hjl] at hj
      exact hj
    · obtain ⟨y, _, rfl⟩ := List.mem_map.1 hu
      rfl
set_option maxHeartbeats 800000 in
theorem cloneS_sts (v : Value) (ls : List Nm) (w : World) (h : Sts w v ls) (hl : ls.length ≤ 1000000) :
    Calls Tryz.prog 71 #[v] w fun e w' => ∃ v', e = .returned v' ∧ Own w w' [rowSs v' ls] := by
  obtain ⟨i0, hi, hz0, hz1, hz2⟩ := infoS_ex
  obtain ⟨a, c, rfl, h2, h3, h4⟩ := id h
  cases a with
  | none =>
    have hn' : ls = [] := by
      rcases Nat.eq_zero_or_pos ls.length with h9 | h9
      · exact List.eq_nil_of_length_eq_zero h9
      · obtain ⟨b, o, e, _⟩ := h4 h9; cases e
    subst hn'
    have hnil : Sem.run Tryz.prog (binOp BinOp.eql 32 (.slice none 0 c) (.slice none 0 0)) w = .ok (.bool true) w := Lib.run_eql_slice_nil (P := Tryz.prog) w 32 9 none 0 c 0 0 Tryz.underlying32
    clear h h4 h2 h3
    go_enter Tryz.func71, Tryz.ntmps71
    go_wp2_with fail
    go_ret
    exact ⟨_, rfl, (Own.start w).nil _ _⟩
  | some ad =>
    obtain ⟨_, ad', e9, hs⟩ := Sts.src h (by simp)
    injection e9 with e9
    subst e9
    have hnil : Sem.run Tryz.prog (binOp BinOp.eql 32 (.slice (some ad) ls.length c) (.slice none 0 0)) w = .ok (.bool false) w := Lib.run_eql_slice_nil (P := Tryz.prog) w 32 9 (some ad) ls.length c 0 0 Tryz.underlying32
    have HO := Lib.hid ((Own.start w).made 9 1 #[] 0 rfl (Nat.zero_le _))
    have Hs := Lib.hid (hs.later (Below.alloc (Below.refl _ w) (Nat.le_refl _) (.cells #[] 9)))
    have Hl := Lib.hid (strs_length ls)
    have hl2 : 0 + ls.length ≤ maxLen := by unfold maxLen; omega
    have hl3 : (0 + ls.length) * 16 ≤ 140737488355328 := by omega
    clear hs h h4 h2 h3
    go_enter Tryz.func71, Tryz.ntmps71
    go_wp2_with (at_builtin; refine wpList_append_src rfl (.tmp 5) (.tmp 6) 32 rfl (.slice (some ⟨w.heap.size, 0, none⟩) 0 0) 0 [] (.slice (some ad) ls.length c) ls.length (strs ls) rfl rfl HO.out i0 (.string ⟨#[]⟩) 16 Tryz.underlying32 hi hz0 hz1 hz2 rfl (by decide) Hs.out (by rw [Hl.out, Nat.mul_one]) hl2 hl3 ?_)
    intro v' w' hO'
    have HO' := Lib.hid hO'
    clear hO'
    go_wp2_with fail
    go_ret
    have h9 : Own w w' [rowSs v' ls] := by have := HO'.out; simpa [rowSs] using this
    exact ⟨_, rfl, h9⟩
end Go.Proofs.YtkhnkidggcjfeaaGreatDoor
end
section
namespace Go.Proofs.YtkhnkidggcjfeaaGreatDoor
open Go.RowKit
open Go.ChangeMaps (setBlock)
theorem idxF_hit {p : Nm → Bool} {l : List Nm} {k : Nat} (hk : k < l.length) (h : p l[k] = true) (hb : ∀ j (hj : j < l.length), j < k → p l[j] = false) : idxF p l = (k : Int) := by
  rcases idxF_cases p l with ⟨_, _, e⟩ | ⟨k', hk', _, e, e3, e4⟩
  · rw [e _ (List.getElem_mem hk)] at h; cases h
  · rw [e]
    have : k' = k := by
      rcases Nat.lt_trichotomy k' k with h1 | h1 | h1
      · rw [hb k' hk' h1] at e3; cases e3
      · exact h1
      · rw [e4 k hk h1] at h; cases h
    rw [this]
theorem idxF_miss {p : Nm → Bool} {l : List Nm} (hb : ∀ j (hj : j < l.length), p l[j] = false) : idxF p l = -1 := by
  rcases idxF_cases p l with ⟨_, e, _⟩ | ⟨k', hk', _, e, e3, e4⟩
  · exact e
  · rw [hb k' hk'] at e3; cases e3
theorem idxF_any (p : Nm → Bool) (l : List Nm) : decide (idxF p l ≥ 0) = l.any p := by
  rcases idxF_cases p l with ⟨_, e, h⟩ | ⟨k', hk', _, e, e3, e4⟩
  · rw [e, decide_eq_false (by omega)]
    exact (List.any_eq_false.2 fun x hx => by rw [h x hx]; simp).symm
  · rw [e, decide_eq_true (by omega)]
    exact (List.any_eq_true.2 ⟨_, List.getElem_mem hk', e3⟩).symm
set_option maxHeartbeats 2000000 in
theorem index_lb (g : Nat) (lb : Array Value) (p : Nm → Bool) (eg : ∀ args w, (callFunc g args).run Tryz.prog w = .ok (.enter g args) w) (v : Value) (ls : List Nm) (w : World) (h : Sts w v ls)
    (hp : ∀ (W : World) (x : Nm), x ∈ ls → Below w.heap.size w W → Calls Tryz.prog g (#[.string (toB x)] ++ lb) W fun e w' => e = .returned (.bool (p x)) ∧ Below W.heap.size W w') :
    Calls Tryz.prog 49 #[v, .func (.func g) #[] lb] w fun e w' => e = .returned (.int .i64 (idxF p ls)) ∧ Below w.heap.size w w' := by
  obtain ⟨a, c, rfl, h2, h3, h4⟩ := id h
  have h63 : ls.length ≤ 9223372036854775807 := by unfold maxLen at h3; omega
  have HC := Lib.hid h
  have HP := Lib.hid hp
  clear h h2 h3 h4 hp
  go_enter Tryz.func49, Tryz.ntmps49
  go_wp2_with fail
  go_loopw [8] (fun s8 wr => ∃ k : Nat, k ≤ ls.length ∧ s8 = .int .i64 k ∧ Hid (Below w.heap.size w wr) ∧ Hid (∀ j (hj : j < ls.length), j < k → p ls[j] = false)) (fun s8 _ => ls.length - (intOf s8).toNat)
  case atStart => exact ⟨0, Nat.zero_le _, rfl, Below.refl _ w, fun j _ hj => absurd hj (Nat.not_lt_zero _)⟩
  case round =>
    obtain ⟨k, hk, rfl, BW, A⟩ := hrel
    by_cases hlt : k < ls.length
    · obtain ⟨a', c', e, _, _, h4⟩ := HC.out.later BW.out
      injection e with e1 _ e3
      subst e1 e3
      obtain ⟨b, o, rfl, hb, hc⟩ := h4 (by omega)
      have l2 := hc k hlt
      have hcall := HP.out wr ls[k] (List.getElem_mem hlt) BW.out
      have HN := Lib.hid (fun (hq : p ls[k] = true) => idxF_hit hlt hq A.out)
      have HA := Lib.hid (fun (hq : p ls[k] = false) j (hj : j < ls.length) (hjk : j < k + 1) => (by
        rcases Nat.lt_or_ge j k with h | h
        · exact A.out j hj h
        · obtain rfl : j = k := by omega
          exact hq : p ls[j] = false))
      clear h4 hc
      generalize hy : ls[k] = y at l2 hcall
      have hyB := Lib.hid hy
      clear hy
      generalize toB y = yb at l2 hcall
      cases hq : p y with
      | true =>
        rw [hq] at hcall
        have hq' := Lib.hid hq
        clear hq
        go_wp2_with (go_at_fn g; refine hcall.mono ?_; rintro e w' ⟨rfl, hb'⟩)
        go_ret
        exact ⟨by rw [HN.out (by rw [hyB.out]; exact hq'.out)]; rfl, BW.out.trans (hb'.mono BW.out.size)⟩
      | false =>
        rw [hq] at hcall
        have hq' := Lib.hid hq
        clear hq
        go_wp2_with (go_at_fn g; refine hcall.mono ?_; rintro e w' ⟨rfl, hb'⟩)
        have HB := Lib.hid (BW.out.trans (hb'.mono BW.out.size))
        have HA2 := Lib.hid (HA.out (by rw [hyB.out]; exact hq'.out))
        go_roundw
        case rel => exact ⟨k + 1, by omega, by go_num, HB, HA2⟩
        case measure => simp [intOf]; omega
    · have HN := Lib.hid (idxF_miss (p := p) (l := ls) fun j hj => A.out j hj (by omega))
      go_wp2_with fail
      go_ret
      exact ⟨by rw [HN.out]; rfl, BW.out⟩
theorem index_bd (g : Nat) (bd : Value) (p : Nm → Bool) (eg : ∀ args w, (callFunc g args).run Tryz.prog w = .ok (.enter g args) w) (v : Value) (ls : List Nm) (w : World) (h : Sts w v ls)
    (hp : ∀ (W : World) (x : Nm), x ∈ ls → Below w.heap.size w W → Calls Tryz.prog g #[bd, .string (toB x)] W fun e w' => e = .returned (.bool (p x)) ∧ Below W.heap.size W w') :
    Calls Tryz.prog 49 #[v, .func (.func g) #[bd] #[]] w fun e w' => e = .returned (.int .i64 (idxF p ls)) ∧ Below w.heap.size w w' := by
  obtain ⟨a, c, rfl, h2, h3, h4⟩ := id h
  have h63 : ls.length ≤ 9223372036854775807 := by unfold maxLen at h3; omega
  have HC := Lib.hid h
  have HP := Lib.hid hp
  clear h h2 h3 h4 hp
  go_enter Tryz.func49, Tryz.ntmps49
  go_wp2_with fail
  go_loopw [8] (fun s8 wr => ∃ k : Nat, k ≤ ls.length ∧ s8 = .int .i64 k ∧ Hid (Below w.heap.size w wr) ∧ Hid (∀ j (hj : j < ls.length), j < k → p ls[j] = false)) (fun s8 _ => ls.length - (intOf s8).toNat)
  case atStart => exact ⟨0, Nat.zero_le _, rfl, Below.refl _ w, fun j _ hj => absurd hj (Nat.not_lt_zero _)⟩
  case round =>
    obtain ⟨k, hk, rfl, BW, A⟩ := hrel
    by_cases hlt : k < ls.length
    · obtain ⟨a', c', e, _, _, h4⟩ := HC.out.later BW.out
      injection e with e1 _ e3
      subst e1 e3
      obtain ⟨b, o, rfl, hb, hc⟩ := h4 (by omega)
      have l2 := hc k hlt
      have hcall := HP.out wr ls[k] (List.getElem_mem hlt) BW.out
      have HN := Lib.hid (fun (hq : p ls[k] = true) => idxF_hit hlt hq A.out)
      have HA := Lib.hid (fun (hq : p ls[k] = false) j (hj : j < ls.length) (hjk : j < k + 1) => (by
        rcases Nat.lt_or_ge j k with h | h
        · exact A.out j hj h
        · obtain rfl : j = k := by omega
          exact hq : p ls[j] = false))
      clear h4 hc
      generalize hy : ls[k] = y at l2 hcall
      have hyB := Lib.hid hy
      clear hy
      generalize toB y = yb at l2 hcall
      cases hq : p y with
      | true =>
        rw [hq] at hcall
        have hq' := Lib.hid hq
        clear hq
        go_wp2_with (go_at_fn g; refine hcall.mono ?_; rintro e w' ⟨rfl, hb'⟩)
        go_ret
        exact ⟨by rw [HN.out (by rw [hyB.out]; exact hq'.out)]; rfl, BW.out.trans (hb'.mono BW.out.size)⟩
      | false =>
        rw [hq] at hcall
        have hq' := Lib.hid hq
        clear hq
        go_wp2_with (go_at_fn g; refine hcall.mono ?_; rintro e w' ⟨rfl, hb'⟩)
        have HB := Lib.hid (BW.out.trans (hb'.mono BW.out.size))
        have HA2 := Lib.hid (HA.out (by rw [hyB.out]; exact hq'.out))
        go_roundw
        case rel => exact ⟨k + 1, by omega, by go_num, HB, HA2⟩
        case measure => simp [intOf]; omega
    · have HN := Lib.hid (idxF_miss (p := p) (l := ls) fun j hj => A.out j hj (by omega))
      go_wp2_with fail
      go_ret
      exact ⟨by rw [HN.out]; rfl, BW.out⟩
theorem containsF_lb (g : Nat) (lb : Array Value) (p : Nm → Bool) (eg : ∀ args w, (callFunc g args).run Tryz.prog w = .ok (.enter g args) w) (v : Value) (ls : List Nm) (w : World) (h : Sts w v ls)
    (hp : ∀ (W : World) (x : Nm), x ∈ ls → Below w.heap.size w W → Calls Tryz.prog g (#[.string (toB x)] ++ lb) W fun e w' => e = .returned (.bool (p x)) ∧ Below W.heap.size W w') :
    Calls Tryz.prog 54 #[v, .func (.func g) #[] lb] w fun e w' => e = .returned (.bool (ls.any p)) ∧ Below w.heap.size w w' := by
  have hi := index_lb g lb p eg v ls w h hp
  have HE := Lib.hid (idxF_any p ls)
  clear h hp
  generalize idxF p ls = r at *
  go_enter Tryz.func54, Tryz.ntmps54
  go_wp2_with (go_at_call 49; refine hi.mono ?_; rintro e w' ⟨rfl, hb⟩)
  go_ret
  exact ⟨by rw [← HE.out]; rfl, hb⟩
end Go.Proofs.YtkhnkidggcjfeaaGreatDoor
end
