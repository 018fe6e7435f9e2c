/- Texts one behind the other, each in a section of its own: what calls make of memory, step by step. -/
import Derived.Test.YtnjabanjgckeoaaGreatDoorPackMgrRetries13
import Derived.Test.YtnjabanjgckeoaaGreatDoorRows
import Derived.Deep.Slices
import Derived.Lib.SmallJoins
import Derived.WideShapes
import Derived.ProofKit
import Derived.Deep.RegionHeld3

/- What runs: it goes on or ends; something comes. -/
section
namespace Go.Proofs.YtnjabanjgckeoaaGreatDoor
open Go.RowKit
open Go.ChangeMaps (setBlock)
set_option linter.unusedVariables false
set_option linter.unusedSimpArgs false
set_option maxRecDepth 100000

section
variable {w0 w w' : World} {S S' S1 : Blocks} {R L L' L1 M L0 : List Rw} {v c n d : Nat} {X X' X1 X2 : VX} {T T' Tc T1 : Tr} {Y Y' : Tab} {K K' : Blocks} {fv : Value} {acc : List Int}
theorem pick_no (h : VT w0 K L0 v X Y w) (i : Int) (hp : look Y.runs i = none) : Calls Tryz.prog 12 #[.pointer (some ⟨Y.tb, 0, none⟩), .int .i64 i] w fun e w' => e = .returned (.tuple #[.bool false, .int .i64 8]) ∧ VT w0 K L0 v X Y w' := by
  obtain ⟨t0, t1, t2⟩ := h.tab
  have hl := h.foundNo hp
  have H := Lib.hid h
  clear h hp
  go_enter Tryz.func12, Tryz.ntmps12
  go_wp2_with fail
  go_ret2
  exact ⟨rfl, H.out⟩
theorem pick_on (h : VT w0 K L0 v X Y w) (i : Int) {p : Pr} (hp : look Y.runs i = some p) (he : p.ends = false) : Calls Tryz.prog 12 #[.pointer (some ⟨Y.tb, 0, none⟩), .int .i64 i] w fun e w' => e = .returned (.tuple #[.bool false, .int .i64 0]) ∧ VT w0 K L0 v X Y w' := by
  obtain ⟨t0, t1, t2⟩ := h.tab
  have hl := h.foundYes hp
  obtain ⟨c3, f3⟩ := h.proc hp 3
  have c3' : w.cell? ⟨p.b, 3, none⟩ = some (.bool false) := by rw [c3, ← he]; rfl
  have H := Lib.hid h
  clear h hp c3 f3
  go_enter Tryz.func12, Tryz.ntmps12
  go_wp2_with fail
  go_ret2
  exact ⟨rfl, H.out⟩
theorem pick_end {N : Nat} (h : VT w0 K L0 v X Y w) (hd : (Y.runs.map (·.1)).Nodup) (ho : HeldOk N X) (hN : N ≤ 1000000) (i : Int) {p : Pr} (hp : look Y.runs i = some p) (hpl : p.maps.length ≤ 1000000) (he : p.ends = true) : Calls Tryz.prog 12 #[.pointer (some ⟨Y.tb, 0, none⟩), .int .i64 i] w fun e w' => e = .returned (.tuple #[.bool true, .int .i64 0]) ∧ VT w0 K L0 v (letAll X p.maps) { Y with runs := del Y.runs i } w' := by
  obtain ⟨t0, t1, t2⟩ := h.tab
  have hl := h.foundYes hp
  obtain ⟨c3, f3⟩ := h.proc hp 3
  have c3' : w.cell? ⟨p.b, 3, none⟩ = some (.bool true) := by rw [c3, ← he]; rfl
  have hex := exit_yes h hd ho hN i hp hpl
  clear h hp c3 f3 hd ho
  go_enter Tryz.func12, Tryz.ntmps12
  go_wp2_with fail
  refine hex.mono ?_
  rintro e w3 ⟨rfl, h3⟩
  have H3 := Lib.hid h3
  clear h3 hex
  go_wp2_with fail
  go_ret2
  exact ⟨rfl, H3.out⟩
theorem spawn_many (h : VT w0 K L0 v X Y w) (u : ByteArray) (a : Option Addr) (m c : Nat) (hm : 8 < m) : Calls Tryz.prog 10 #[.pointer (some ⟨Y.tb, 0, none⟩), .string u, .slice a m c] w fun e w' => e = .returned (.tuple #[.int .i64 0, .int .i64 22]) ∧ VT w0 K L0 v X Y w' := by
  have b8 : (8 : Int) < (m : Int) := by exact_mod_cast hm
  have H := Lib.hid h
  clear h hm
  go_enter Tryz.func10, Tryz.ntmps10
  go_wp2_with fail
  go_ret2
  exact ⟨rfl, H.out⟩
theorem spawn_full (h : VT w0 K L0 v X Y w) (u : ByteArray) (a : Option Addr) (m c : Nat) (hm : m ≤ 8) (hr : 32 ≤ Y.runs.length) : Calls Tryz.prog 10 #[.pointer (some ⟨Y.tb, 0, none⟩), .string u, .slice a m c] w fun e w' => e = .returned (.tuple #[.int .i64 0, .int .i64 7]) ∧ VT w0 K L0 v X Y w' := by
  obtain ⟨t0, t1, t2⟩ := h.tab
  have hl := h.len
  have b8 : ¬ (8 : Int) < (m : Int) := by omega
  have b32 : (32 : Int) ≤ (Y.runs.length : Int) := by exact_mod_cast hr
  have H := Lib.hid h
  clear h hm hr
  go_enter Tryz.func10, Tryz.ntmps10
  go_wp2_with fail
  go_ret2
  exact ⟨rfl, H.out⟩
set_option maxHeartbeats 2000000 in
theorem spawn_no {N : Nat} (h : VT w0 K L0 v X Y w) (hm : Mx w0) (ho : HeldOk N X) (u : ByteArray) (a : Option Addr) (ps : List ByteArray) (c : Nat) (hN : N + ps.length ≤ 1000000) (hsz : ∀ p ∈ ps, p.size ≤ maxLen) (hps : ∀ w' X', VT w0 K L0 v X' Y w' → ∀ i (h : i < ps.length), ∃ g o, a = some ⟨g, o, none⟩ ∧ w'.cell? ⟨g, o + i, none⟩ = some (.string ps[i]))
    (h8 : ps.length ≤ 8) (h32 : Y.runs.length < 32) {e0 : Int} {ids : List Int} (hH : holdFrom (X, []) (ps.map fun p => p.data.toList) = (e0, ids, X1)) (he : e0 ≠ 0) :
    Calls Tryz.prog 10 #[.pointer (some ⟨Y.tb, 0, none⟩), .string u, .slice a ps.length c] w fun e w' => e = .returned (.tuple #[.int .i64 0, .int .i64 e0]) ∧ VT w0 K L0 v X1 Y w' := by
  obtain ⟨t0, t1, t2⟩ := h.tab
  have hl := h.len
  have b8 : ¬ (8 : Int) < (ps.length : Int) := by omega
  have b32 : ¬ (32 : Int) ≤ (Y.runs.length : Int) := by omega
  have hne : (e0 != 0) = true := by simp [he]
  have hh := holds_any h hm ho a ps c hN hsz hps
  have hh2 : Calls Tryz.prog 49 #[.pointer (some ⟨Y.tb, 0, none⟩), .slice a ps.length c] w fun e w' => ∃ fv, e = .returned (.tuple #[fv, .int .i64 e0]) ∧ VTR w0 K L0 v X1 Y fv ids w' := hh.mono fun e w' k => by
    unfold HoldAt at k
    rw [hH] at k
    exact k
  clear h hh hps hsz hH ho h8 h32 hN
  go_enter Tryz.func10, Tryz.ntmps10
  go_wp2_with fail
  refine hh2.mono ?_
  rintro e w5 ⟨fv, rfl, h5⟩
  have H5 := Lib.hid h5.weak
  clear h5 hh2
  go_wp2_with fail
  go_ret2
  exact ⟨rfl, H5.out⟩
set_option maxHeartbeats 4000000 in
theorem spawn_yes {N : Nat} (h : VT w0 K L0 v X Y w) (hm : Mx w0) (ho : HeldOk N X) (u : ByteArray) (a : Option Addr) (ps : List ByteArray) (c : Nat) (hN : N + ps.length ≤ 1000000) (hsz : ∀ p ∈ ps, p.size ≤ maxLen) (hps : ∀ w' X', VT w0 K L0 v X' Y w' → ∀ i (h : i < ps.length), ∃ g o, a = some ⟨g, o, none⟩ ∧ w'.cell? ⟨g, o + i, none⟩ = some (.string ps[i]))
    (h8 : ps.length ≤ 8) (h32 : Y.runs.length < 32) {ids : List Int} (hH : holdFrom (X, []) (ps.map fun p => p.data.toList) = (0, ids, X1)) (hl1 : 0 ≤ Y.last ∧ Y.last ≤ 1000000000) (hfr : look Y.runs (Y.last + 1) = none) :
    Calls Tryz.prog 10 #[.pointer (some ⟨Y.tb, 0, none⟩), .string u, .slice a ps.length c] w fun e w' => e = .returned (.tuple #[.int .i64 (Y.last + 1), .int .i64 0]) ∧ ∃ b fv, VT w0 K L0 v X1 { Y with last := Y.last + 1, runs := put Y.runs (Y.last + 1) ⟨b, u, fv, ids, false⟩ } w' := by
  obtain ⟨t0, t1, t2⟩ := h.tab
  have hl := h.len
  have b8 : ¬ (8 : Int) < (ps.length : Int) := by omega
  have b32 : ¬ (32 : Int) ≤ (Y.runs.length : Int) := by omega
  have hh := holds_any h hm ho a ps c hN hsz hps
  have hh2 : Calls Tryz.prog 49 #[.pointer (some ⟨Y.tb, 0, none⟩), .slice a ps.length c] w fun e w' => ∃ fv, e = .returned (.tuple #[fv, .int .i64 0]) ∧ VTR w0 K L0 v X1 Y fv ids w' := hh.mono fun e w' k => by
    unfold HoldAt at k
    rw [hH] at k
    exact k
  have hwr : IntKind.i64.wrap (Y.last + 1) = Y.last + 1 := IntWalk.i64_in _ (by omega)
  have Hfr := Lib.hid hfr
  clear h hh hps hsz hH ho h8 h32 hN hfr
  go_enter Tryz.func10, Tryz.ntmps10
  go_wp2_with fail
  refine hh2.mono ?_
  rintro e w5 ⟨fv, rfl, h5⟩
  obtain ⟨fa, fc, hfv⟩ : ∃ a c, fv = .slice a ids.length c := by
    obtain ⟨S, R, L, T, k1, _⟩ := h5
    exact PcI.shape k1.ownL (.inr (List.mem_cons_self ..))
  subst hfv
  have k5 := h5.vt
  obtain ⟨d0, d1, d2⟩ := k5.tab
  have f1 := k5.free 1
  have k6 := (k5.setLast (Y.last + 1)).drew
  have f6 := (k5.setLast (Y.last + 1)).tab.2.1
  have g6 : (w5.setCell ⟨Y.tb, 1, none⟩ (.int .i64 (Y.last + 1))).drew.cell? ⟨Y.tb, 1, none⟩ = some (.int .i64 (Y.last + 1)) ∧ (w5.setCell ⟨Y.tb, 1, none⟩ (.int .i64 (Y.last + 1))).drew.cell? ⟨Y.tb, 2, none⟩ = some (.map (some Y.mb)) := k6.tab.2
  obtain ⟨w6, hw6⟩ : ∃ w6, w6 = w5.setCell ⟨Y.tb, 1, none⟩ (.int .i64 (Y.last + 1)) := ⟨_, rfl⟩
  rw [← hw6] at k6 g6
  obtain ⟨o', hup, k7⟩ := k6.addRun (i := Y.last + 1) Hfr.out ⟨w6.drew.heap.size, u, .slice fa ids.length fc, ids, false⟩ rfl (.inr (List.mem_cons_self ..))
  unfold prCells at hup k7
  dsimp only at hup k7
  have g7 := k7.tab.2
  dsimp only at g7
  have g8 : (w6.drew.alloc (.cells #[.int .i64 (Y.last + 1), .string u, .slice fa ids.length fc, .bool false] 101)).cell? ⟨Y.tb, 1, none⟩ = some (.int .i64 (Y.last + 1)) ∧ (w6.drew.alloc (.cells #[.int .i64 (Y.last + 1), .string u, .slice fa ids.length fc, .bool false] 101)).cell? ⟨Y.tb, 2, none⟩ = some (.map (some Y.mb)) := by
    obtain ⟨S, R, L, T, q1, q2, _⟩ := k6
    have hO := q1.own.newB (.cells #[.int .i64 (Y.last + 1), .string u, .slice fa ids.length fc, .bool false] 101)
    have hc := List.mem_cons_of_mem (w6.drew.heap.size, Obj.cells #[.int .i64 (Y.last + 1), .string u, .slice fa ids.length fc, .bool false] 101) q2.cells
    exact ⟨by rw [hO.cellB hc]; rfl, by rw [hO.cellB hc]; rfl⟩
  have HP := Lib.hid (show ∃ b fv, VT w0 K L0 v X1 { Y with last := Y.last + 1, runs := put Y.runs (Y.last + 1) ⟨b, u, fv, ids, false⟩ } (setBlock (w6.drew.alloc (.cells #[.int .i64 (Y.last + 1), .string u, .slice fa ids.length fc, .bool false] 101)) Y.mb o') from ⟨_, _, k7.rows fun x hx => List.mem_cons_of_mem _ hx⟩)
  have hup2 : (Instr.mapUpdate 109 (.map (some Y.mb)) (.int .i64 (Y.last + 1)) (.pointer (some ⟨w6.heap.size, 0, none⟩))).run Tryz.prog (w6.alloc (.cells #[.int .i64 (Y.last + 1), .string u, .slice fa ids.length fc, .bool false] 101)).drew = .ok () (setBlock (w6.drew.alloc (.cells #[.int .i64 (Y.last + 1), .string u, .slice fa ids.length fc, .bool false] 101)) Y.mb o') := hup
  have g8' : (w6.alloc (.cells #[.int .i64 (Y.last + 1), .string u, .slice fa ids.length fc, .bool false] 101)).drew.cell? ⟨Y.tb, 1, none⟩ = some (.int .i64 (Y.last + 1)) ∧ (w6.alloc (.cells #[.int .i64 (Y.last + 1), .string u, .slice fa ids.length fc, .bool false] 101)).drew.cell? ⟨Y.tb, 2, none⟩ = some (.map (some Y.mb)) := g8
  obtain ⟨W7, hW7⟩ : ∃ W7, W7 = setBlock (w6.drew.alloc (.cells #[.int .i64 (Y.last + 1), .string u, .slice fa ids.length fc, .bool false] 101)) Y.mb o' := ⟨_, rfl⟩
  rw [← hW7] at hup2 HP g7
  clear h5 hh2 k5 k6 k7 hup hW7 g8
  go_wp2_with fail
  rw [← hw6]
  clear hw6 d0 d1 d2 f1 f6
  go_region_held3 (fun w' : World => w'.cell? ⟨Y.tb, 1, none⟩ = some (.int .i64 (Y.last + 1)) ∧ w'.cell? ⟨Y.tb, 2, none⟩ = some (.map (some Y.mb))) (first | exact g6 | exact g8' | exact g7) (fail)
  all_goals go_wp2_with fail
  all_goals go_ret2
  all_goals exact ⟨rfl, HP.out⟩
end
end Go.Proofs.YtnjabanjgckeoaaGreatDoor
end

/- The numbers of all that runs, in order. -/
section
namespace Go.Proofs.YtnjabanjgckeoaaGreatDoor
open Go.RowKit Go.Maps Go.Shelf
open Go.ChangeMaps (setBlock)
open Go.WideElems (Fit rd rg)
set_option linter.unusedVariables false
set_option linter.unusedSimpArgs false
set_option maxRecDepth 100000

def zOf (v : Value) : Int := match v with
  | .int _ z => z
  | _ => 0
theorem keyOf_i {i : Int} (h : 0 ≤ i ∧ i ≤ 4000000000) : keyOf Tryz.prog 3 (.int .i64 i) = some (.int .i64 i) := by
  have hw : (Lit.int .i64 i).wf = true := by simp [Lit.wf, IntKind.min, IntKind.max, IntKind.signed, IntKind.bits]; omega
  unfold keyOf mapKey
  rw [Tryz.underlying3]
  simp [hw]
theorem owns_ofI {w : World} {b : Nat} {o : Obj} {m : List (Int × Value)} (h : MapO KI o m) (hb : w.heap[b]? = some o) (hd : (m.map (·.1)).Nodup) (hs : ∀ p ∈ m, 0 ≤ p.1 ∧ p.1 ≤ 4000000000) (hn : m.length ≤ maxLen) :
    ∃ D0 : DataW Unit, w.ownsMap Tryz.prog 3 noR b m.length D0 ∧ (intKeys D0).Perm (m.map (·.1)) ∧ Maps.size D0 = m.length := by
  obtain ⟨es, clock, rfl, h1, h2, h3⟩ := h
  have hk : es.toList.map (·.key) = m.map fun p => KI p.1 := by
    have := congrArg (List.map (·.1)) h1
    rw [List.map_map, List.map_map] at this
    exact this
  have hsz : es.size = m.length := by
    have := congrArg List.length hk
    simpa using this
  have hkey : ∀ x ∈ es.toList, ∃ i : Int, x.key = .int .i64 i ∧ 0 ≤ i ∧ i ≤ 4000000000 := fun x hx => by
    have : x.key ∈ m.map fun p => KI p.1 := by rw [← hk]; exact List.mem_map.2 ⟨x, hx, rfl⟩
    obtain ⟨p, hp, e⟩ := List.mem_map.1 this
    exact ⟨p.1, e.symm, hs p hp⟩
  have hrd : ∀ x ∈ es.toList, rd Tryz.prog 3 noR x = some (.int .i64 (zOf x.key), .nil) := fun x hx => by
    obtain ⟨s, e, hs⟩ := hkey x hx
    unfold rd
    rw [e, keyOf_i hs]; rfl
  refine ⟨_, ⟨es, clock, hb, ⟨by omega, ⟨h3, h2, ?_⟩, fun x hx => ⟨_, hrd x hx⟩⟩, by omega, rfl⟩, ?_, ?_⟩
  · rw [hk]
    have : (m.map fun p => KI p.1) = (m.map (·.1)).map KI := by rw [List.map_map]; rfl
    rw [this]
    exact hd.map (f := KI) (fun a b hne e => hne (by injection e))
  · have hp := (Go.WideShapes.sorted_perm (es.toList.map (rg Tryz.prog 3 noR))).map (fun p => Go.intOf p.1)
    refine List.Perm.trans hp ?_
    rw [List.map_map]
    have e1 : es.toList.map ((fun p : Lit × DataW Unit => Go.intOf p.1) ∘ rg Tryz.prog 3 noR) = es.toList.map fun x => zOf x.key := List.map_congr_left fun x hx => by
      simp only [Function.comp, rg, hrd x hx]; rfl
    rw [e1, show (es.toList.map fun x => zOf x.key) = (es.toList.map (·.key)).map zOf by rw [List.map_map]; rfl, hk, List.map_map]
    exact List.Perm.refl _
  · rw [Maps.size_eq, Go.length_sorted, List.length_map]
    simpa using hsz
section
variable {w0 w w' : World} {R L L' L1 M L0 : List Rw} {v : Nat} {X X' : VX} {Y Y' : Tab} {K K' : Blocks}
set_option maxHeartbeats 2000000 in
theorem plist_any (h : VT w0 K L0 v X Y w) (hd : (Y.runs.map (·.1)).Nodup) (hs : ∀ p ∈ Y.runs, 0 ≤ p.1 ∧ p.1 ≤ 4000000000) (hn : Y.runs.length ≤ 1000000) :
    Calls Tryz.prog 16 #[.pointer (some ⟨Y.tb, 0, none⟩)] w fun e w' => ∃ (lv : Value) (ss : List Int), e = .returned lv ∧ ss.Perm (Y.runs.map (·.1)) ∧
      w'.ownsRow w.heap.size 3 1 lv ss.length ((ss.mergeSort (fun x y => decide (x ≤ y))).map encZ) ∧ Below w.heap.size w w' := by
  obtain ⟨t0, t1, t2⟩ := h.tab
  obtain ⟨D0, hown, hperm, hsz0⟩ : ∃ D0 : DataW Unit, w.ownsMap Tryz.prog 3 noR Y.mb Y.runs.length D0 ∧ (intKeys D0).Perm (Y.runs.map (·.1)) ∧ Maps.size D0 = Y.runs.length := by
    obtain ⟨S, R, L, T, h1, h2, _⟩ := h
    obtain ⟨o, m1, m2⟩ := h2.map
    have e1 : (runsV Y.runs).map (·.1) = Y.runs.map (·.1) := by unfold runsV; rw [List.map_map]; rfl
    have e2 : (runsV Y.runs).length = Y.runs.length := by simp [runsV]
    have := owns_ofI m2 (h1.own.at m1) (by rw [e1]; exact hd) (fun p hp => by
      obtain ⟨q, hq, rfl⟩ := List.mem_map.1 hp
      exact hs q hq) (by rw [e2]; unfold maxLen; omega)
    rw [e1, e2] at this
    exact this
  have hml : Y.runs.length ≤ maxLen := by unfold maxLen; omega
  have hby : Y.runs.length * 8 ≤ 140737488355328 := by omega
  clear h hd hs
  refine (callsIn_wide (n := 6)).1 ?_
  have hfK : Fence.wide.fn 53 := trivial
  have hfS : Fence.wide.fn 52 := trivial
  refine callsIn_of_wp Tryz.func16 rfl trivial ?_ rfl
  simp only [Tryz.ntmps16, List.size_toArray, List.length_cons, List.length_nil, Nat.reduceAdd, Nat.reduceSub, Array.replicate_succ, Array.replicate_zero, List.push_toArray, List.append_toArray, List.nil_append, List.cons_append]
  gi_wp2_with (first
    | (gi_at_call 53; refine (Tryz.maps_Keys_53 _ _).mono ?_; rintro e w' ⟨rfl, rfl⟩)
    | (gi_at_call 52; refine (Tryz.slices_Sorted_keysI_53 Y.mb Y.runs.length D0 noR w hown (by rw [hsz0]; exact hml) (by rw [hsz0]; exact hby)).mono ?_; rintro e w' ⟨lv, ss, rfl, hS, hrow, hnil, hb⟩))
  have hle : w.heap.size ≤ (w.alloc (.cells #[.map (some Y.mb)] 109)).heap.size := by simp
  go_ret
  exact ⟨lv, ss, rfl, hS.trans hperm, ownsRow_base hrow hle, ((Below.refl _ w).alloc (Nat.le_refl _) _).trans (hb.mono hle)⟩
end
end Go.Proofs.YtnjabanjgckeoaaGreatDoor
end

/- A table of nothing; all is forgotten; something that runs is told. -/
section
namespace Go.Proofs.YtnjabanjgckeoaaGreatDoor
open Go.RowKit
open Go.ChangeMaps (setBlock)
open Go.MapKept (run_setObj_map)
set_option linter.unusedVariables false
set_option linter.unusedSimpArgs false
set_option maxRecDepth 100000

section
variable {P : Program} {α : Type} {w : World} {b : Nat} {o : Obj} {mt kt et : TypeId} {K : α → Value} {m : List (α × Value)}
end
section
variable {w0 w w' : World} {S S' S1 : Blocks} {R L L' L1 M L0 : List Rw} {v c n d : Nat} {X X' X1 X2 : VX} {T T' Tc T1 : Tr} {Y Y' : Tab} {K K' : Blocks} {fv : Value} {acc : List Int}
theorem pnew_any (h : VolAt w0 w K L0 v X) : Calls Tryz.prog 9 #[filesV v] w fun e w' => ∃ Y : Tab, e = .returned (.pointer (some ⟨Y.tb, 0, none⟩)) ∧ Y.last = 0 ∧ Y.runs = [] ∧ VT w0 K L0 v X Y w' := by
  obtain ⟨S, R, L, T, h1, h4, h5⟩ := h
  have hO1 := h1.own.newB (.map #[] 0)
  have hO := hO1.newB (.cells (tabCells v ⟨w.heap.size + 1, w.heap.size, 0, []⟩) 111)
  rw [show (w.alloc (.map #[] 0)).heap.size = w.heap.size + 1 by simp] at hO
  have hk : ∀ b x, (b, x) ∈ S → (b, x) ∈ (w.heap.size + 1, Obj.cells (tabCells v ⟨w.heap.size + 1, w.heap.size, 0, []⟩) 111) :: (w.heap.size, Obj.map #[] 0) :: S := fun b x hb => List.mem_cons_of_mem _ (List.mem_cons_of_mem _ hb)
  have hV : VT w0 K L0 v X ⟨w.heap.size + 1, w.heap.size, 0, []⟩ ((w.alloc (.map #[] 0)).alloc (.cells (tabCells v ⟨w.heap.size + 1, w.heap.size, 0, []⟩) 111)) := by
    refine ⟨_, R, L, T, h1.base hO fun b x hx _ => hk b x hx, ⟨List.mem_cons_self .., ⟨_, List.mem_cons_of_mem _ (List.mem_cons_self ..), MapO.empty _⟩, (fun q hq => by cases hq), ?_⟩, fun b hb hx => ?_, h4, fun b x hb => ?_⟩
    · show [w.heap.size + 1, w.heap.size].Nodup
      simp
    · have h6 : b ∈ [w.heap.size + 1, w.heap.size] := hb
      have h7 := (h1.lt hx).2
      simp at h6; omega
    · obtain ⟨q1, q2⟩ := h5 b x hb
      refine ⟨hk b x q1, q2, fun h6 => ?_⟩
      have h6 : b ∈ [w.heap.size + 1, w.heap.size] := h6
      have h7 := (h1.own.atLt q1).2
      simp at h6; omega
  have HP := Lib.hid hV
  unfold tabCells filesV at *
  clear hV hO hO1 h1 hk h5
  have hmk : ∀ w, (Instr.makeMap 109 none).run Tryz.prog w = .ok (.map (some w.heap.size)) (w.alloc (.map #[] 0)) := fun w => rfl
  go_enter Tryz.func9, Tryz.ntmps9
  go_wp2_with fail
  go_ret
  exact ⟨⟨w.heap.size + 1, w.heap.size, 0, []⟩, rfl, rfl, rfl, HP.out⟩
end
end Go.Proofs.YtnjabanjgckeoaaGreatDoor
end

/- Numbers are copied; something that runs is told. -/
section
namespace Go.Proofs.YtnjabanjgckeoaaGreatDoor
open Go.RowKit
open Go.ChangeMaps (setBlock)
set_option linter.unusedVariables false
set_option linter.unusedSimpArgs false
set_option maxRecDepth 100000

section
variable {w0 w w' : World} {S S' S1 : Blocks} {R L L' L1 M L0 : List Rw} {v c n d : Nat} {X X' X1 X2 : VX} {T T' Tc T1 : Tr} {Y Y' : Tab} {K K' : Blocks} {fv : Value} {acc : List Int}
set_option maxHeartbeats 800000 in
theorem cloneI_any (w : World) (a : Option Addr) (acc : List Int) (cap : Nat) (hl : acc.length ≤ 1000000) (hn : a = none → acc = []) (hr : ∀ i (h : i < acc.length), ∃ g off, a = some ⟨g, off, none⟩ ∧ w.cell? ⟨g, off + i, none⟩ = some (.int .i64 acc[i])) (hform : ∀ b, a = some b → ∃ g off, b = ⟨g, off, none⟩) :
    Calls Tryz.prog 83 #[.slice a acc.length cap] w fun e w' => ∃ v, e = .returned v ∧ Own w w' [rowI v acc] := by
  obtain ⟨i0, hi, hz0, hz1, hz2⟩ := info_parts info_i
  cases a with
  | none =>
    have hn' := hn rfl
    subst hn'
    have hnil : Sem.run Tryz.prog (binOp BinOp.eql 22 (.slice none 0 cap) (.slice none 0 0)) w = .ok (.bool true) w := Lib.run_eql_slice_nil (P := Tryz.prog) w 22 3 none 0 cap 0 0 Tryz.underlying22
    clear hr hn hform
    go_enter Tryz.func83, Tryz.ntmps83
    go_wp2_with fail
    go_ret
    exact ⟨_, rfl, (Own.start w).nil _ _⟩
  | some ad =>
    obtain ⟨g, off, rfl⟩ := hform ad rfl
    have hs : Src w (.slice (some ⟨g, off, none⟩) acc.length cap) acc.length (acc.map (Value.int .i64)) := by
      refine .inr ⟨_, _, rfl, fun j u hj => ?_, fun u hu => by obtain ⟨z, _, rfl⟩ := List.mem_map.1 hu; rfl⟩
      have hj4 : j < acc.length := by
        have := (List.getElem?_eq_some_iff.1 hj).1
        simpa using this
      obtain ⟨g2, o2, e2, h2⟩ := hr j hj4
      injection e2 with e2
      injection e2 with e3 e4
      subst e3 e4
      rw [List.getElem?_map, List.getElem?_eq_getElem hj4] at hj
      rw [Addr.add_mid, h2]
      simpa using hj
    have hnil : Sem.run Tryz.prog (binOp BinOp.eql 22 (.slice (some ⟨g, off, none⟩) acc.length cap) (.slice none 0 0)) w = .ok (.bool false) w := Lib.run_eql_slice_nil (P := Tryz.prog) w 22 3 (some ⟨g, off, none⟩) acc.length cap 0 0 Tryz.underlying22
    have HO := Lib.hid ((Own.start w).made 3 1 #[] 0 rfl (Nat.zero_le _))
    have Hs := Lib.hid (hs.later (Below.alloc (Below.refl _ w) (Nat.le_refl _) (.cells #[] 3)))
    have Hl := Lib.hid (show (acc.map (Value.int .i64)).length = acc.length * 1 by simp)
    have hl2 : 0 + acc.length ≤ maxLen := by unfold maxLen; omega
    have hl3 : (0 + acc.length) * 8 ≤ 140737488355328 := by omega
    clear hs hr hn hform
    go_enter Tryz.func83, Tryz.ntmps83
    go_wp2_with (at_builtin; refine wpList_append_src rfl (.tmp 5) (.tmp 6) 22 rfl (.slice (some ⟨w.heap.size, 0, none⟩) 0 0) 0 [] (.slice (some ⟨g, off, none⟩) acc.length cap) acc.length (acc.map (Value.int .i64)) rfl rfl HO.out i0 (.int .i64 0) 8 Tryz.underlying22 hi hz0 hz1 hz2 rfl (by decide) Hs.out Hl.out hl2 hl3 ?_)
    intro v' w' hO'
    have HO' := Lib.hid hO'
    clear hO'
    go_wp2_with fail
    go_ret
    exact ⟨_, rfl, by have := HO'.out; simpa [rowI] using this⟩
def rQ (g : Nat) (xs : List Value) : Rw := ⟨101, 4, .slice (some ⟨g, 0, none⟩) 1 1, 1, xs⟩
def zQ : List Value := [.int .i64 0, .string ⟨#[]⟩, .slice none 0 0, .bool false]
theorem Own.boxQ {W0 : Base} {w : World} {L : List Rw} (h : Own W0 w L) (xs : List Value) (hx : xs.length = 4) (g : Nat) (hg : g = w.heap.size) : Own W0 (w.alloc (.cells xs.toArray 101)) (rQ g xs :: L) :=
  h.made_at 101 4 xs.toArray 1 g hg (by simp [hx]) (by unfold maxLen; decide)
theorem Own.setQ {W0 : Base} {w : World} {g : Nat} {xs : List Value} {L : List Rw} (h : Own W0 w (rQ g xs :: L)) (ys : List Value) (hx : xs.length = ys.length) : Own W0 (w.setCells g 0 ys) (rQ g ys :: L) := by
  have h1 := Own.setCells (h := h) ys 0
  rw [splice_all' xs ys hx] at h1
  exact h1
theorem Own.rangeQ {W0 : Base} {w : World} {g : Nat} {xs : List Value} {L : List Rw} (h : Own W0 w (rQ g xs :: L)) (hx : xs.length = 4) : w.rangeAt g 0 xs := by
  have h1 := Own.range (h := h) 0 4
  rw [List.drop_zero, ← hx, List.take_length] at h1
  exact h1
theorem info_proc : (Tryz.prog.info? 101).map (·.size) = some 4 := by kernel_rfl
theorem get_no (h : VT w0 K L0 v X Y w) (i : Int) (hp : look Y.runs i = none) : Calls Tryz.prog 46 #[.pointer (some ⟨Y.tb, 0, none⟩), .int .i64 i] w fun e w' => e = .returned (.tuple #[.agg zQ.toArray, .bool false]) ∧ VT w0 K L0 v X Y w' := by
  obtain ⟨t0, t1, t2⟩ := h.tab
  have hO := (Own.start w).boxQ zQ rfl w.heap.size rfl
  have h2 := h.later hO.below
  obtain ⟨_, _, d2⟩ := h2.tab
  have hl := h2.foundNo hp
  have cr := Lib.hid (hO.rangeQ rfl)
  have H := Lib.hid h2
  unfold zQ at *
  clear h hp h2 hO
  go_enter Tryz.func46, Tryz.ntmps46
  go_wp2_with fail
  refine bodyPost_ret (v := .tuple #[.agg zQ.toArray, .bool false]) (ret_cell_tmpT Tryz.results46 rfl rfl cr.out Tryz.underlying101 rfl info_proc) rfl ?_
  exact ⟨rfl, H.out⟩
theorem VT.cells (h : VT w0 K L0 v X Y w) {i : Int} {p : Pr} (hp : look Y.runs i = some p) : w.cell? ⟨p.b, 0, none⟩ = some (.int .i64 i) ∧ w.cell? ⟨p.b, 1, none⟩ = some (.string p.u) ∧ w.cell? ⟨p.b, 2, none⟩ = some p.mv ∧ w.cell? ⟨p.b, 3, none⟩ = some (.bool p.ends) :=
  ⟨(h.proc hp 0).1, (h.proc hp 1).1, (h.proc hp 2).1, (h.proc hp 3).1⟩
theorem Own.cellsQ {W0 : Base} {w : World} {g : Nat} {a b c d : Value} {L : List Rw} (h : Own W0 w (rQ g [a, b, c, d] :: L)) :
    (w.cell? ⟨g, 0, none⟩ = some a ∧ w.cell? ⟨g, 1, none⟩ = some b ∧ w.cell? ⟨g, 2, none⟩ = some c ∧ w.cell? ⟨g, 3, none⟩ = some d) ∧ w.frozen? ⟨g, 0, none⟩ = false ∧ w.frozen? ⟨g, 1, none⟩ = false ∧ w.frozen? ⟨g, 2, none⟩ = false ∧ w.frozen? ⟨g, 3, none⟩ = false :=
  ⟨⟨Own.cell (h := h) 0 (by decide), Own.cell (h := h) 1 (by decide), Own.cell (h := h) 2 (by decide), Own.cell (h := h) 3 (by decide)⟩, Own.free (h := h) 0, Own.free (h := h) 1, Own.free (h := h) 2, Own.free (h := h) 3⟩
theorem PcI.addr {a : Option Addr} {cp : Nat} (h : PcI L0 (.slice a acc.length cp) acc) (hV : VT w0 K L0 v X Y w) : (a = none → acc = []) ∧ ∀ b, a = some b → ∃ g off, b = ⟨g, off, none⟩ := by
  rcases h with ⟨h1, h2⟩ | h
  · injection h1 with e1
    exact ⟨fun _ => h2, fun b hb => by rw [e1] at hb; cases hb⟩
  · obtain ⟨_, hr⟩ := hV.row h
    rcases hr.head.2 with ⟨h1, h2⟩ | ⟨g, cp2, cur, h1, _⟩
    · have h1' : Value.slice a acc.length cp = .slice none 0 0 := h1
      injection h1' with e1
      exact ⟨fun _ => List.eq_nil_of_length_eq_zero h2, fun b hb => by rw [e1] at hb; cases hb⟩
    · have h1' : Value.slice a acc.length cp = .slice (some ⟨g, 0, none⟩) acc.length cp2 := h1
      injection h1' with e1
      refine ⟨fun hn => (by rw [e1] at hn; cases hn), fun b hb => ?_⟩
      rw [e1] at hb
      injection hb with hb
      exact ⟨g, 0, hb.symm⟩
set_option maxHeartbeats 4000000 in
theorem get_yes (h : VT w0 K L0 v X Y w) (i : Int) {p : Pr} (hp : look Y.runs i = some p) (hpl : p.maps.length ≤ 1000000) : Calls Tryz.prog 46 #[.pointer (some ⟨Y.tb, 0, none⟩), .int .i64 i] w fun e w' => ∃ mv : Value, e = .returned (.tuple #[.agg #[.int .i64 i, .string p.u, mv, .bool p.ends], .bool true]) ∧ VT w0 K L0 v X Y w' ∧ Own w w' [rowI mv p.maps] := by
  obtain ⟨t0, t1, t2⟩ := h.tab
  have hO := (Own.start w).boxQ zQ rfl w.heap.size rfl
  have h2 := h.later hO.below
  obtain ⟨_, _, d2⟩ := h2.tab
  have hl := h2.foundYes hp
  obtain ⟨k0, k1, k2, k3⟩ := h2.cells hp
  obtain ⟨L1, hs1, hpc, hV1⟩ := h2.all
  have hpc := hpc _ (look_mem hp)
  dsimp only at hpc
  obtain ⟨fa, fc, hfv⟩ : ∃ a c, p.mv = .slice a p.maps.length c := by
    obtain ⟨S, R, L, T, q1, _, _, q4, _⟩ := hV1
    exact PcI.shape q1.ownL (hpc.imp id (q4 _))
  rw [hfv] at hpc k2
  have hsz : (w.alloc (.cells zQ.toArray 101)).heap.size = w.heap.size + 1 := by simp
  have hO2 := hO.boxQ [.int .i64 i, .string p.u, .slice fa p.maps.length fc, .bool p.ends] rfl (w.heap.size + 1) hsz.symm
  have hb2 := (Below.refl _ (w.alloc (.cells zQ.toArray 101))).alloc (Nat.le_refl _) (.cells ([.int .i64 i, .string p.u, .slice fa p.maps.length fc, .bool p.ends] : List Value).toArray 101)
  have m2 := ((h2.later hb2).cells hp).2.2.1
  rw [hfv] at m2
  have hVB := hV1.later hb2
  obtain ⟨ha1, ha2⟩ := PcI.addr hpc hVB
  have hcl := cloneI_any _ fa p.maps fc hpl ha1 (fun j hj => PcI.at hpc hVB j hj) ha2
  have H := Lib.hid h
  have HO2 := Lib.hid hO2
  unfold zQ at *
  clear h h2 hO hV1 hp hO2 hVB hpc ha1 ha2 hb2 hsz
  go_enter Tryz.func46, Tryz.ntmps46
  go_wp2_with fail
  refine hcl.mono ?_
  rintro e w3 ⟨mv, rfl, h3⟩
  obtain ⟨ma, mc, hmv, _, _⟩ := Own.sized (h := (show Own _ w3 (⟨3, 1, mv, p.maps.length, p.maps.map (Value.int .i64)⟩ :: []) from h3))
  subst hmv
  have hO3 := HO2.out.join h3
  have hO3 : Own w w3 (rQ (w.heap.size + 1) [.int .i64 i, .string p.u, .slice fa p.maps.length fc, .bool p.ends] :: rowI (.slice ma p.maps.length mc) p.maps :: [rQ w.heap.size zQ]) := hO3.swap
  have f3 := (Own.cellsQ hO3).2.2.2.1
  have e3 := (Own.cellsQ hO3).1.2.2.1
  have hO4 : Own w (w3.setCell ⟨w.heap.size + 1, 2, none⟩ (.slice ma p.maps.length mc)) (rQ (w.heap.size + 1) [.int .i64 i, .string p.u, .slice ma p.maps.length mc, .bool p.ends] :: rowI (.slice ma p.maps.length mc) p.maps :: [rQ w.heap.size zQ]) := Own.set (h := hO3) 2 _
  obtain ⟨⟨a0, a1, a2, a3⟩, _⟩ := Own.cellsQ hO4
  have hO4' : Own w (w3.setCell ⟨w.heap.size + 1, 2, none⟩ (.slice ma p.maps.length mc)) (rQ w.heap.size zQ :: rQ (w.heap.size + 1) [.int .i64 i, .string p.u, .slice ma p.maps.length mc, .bool p.ends] :: [rowI (.slice ma p.maps.length mc) p.maps]) := hO4.perm ((List.Perm.cons _ (List.Perm.swap ..)).trans (List.Perm.swap ..))
  obtain ⟨⟨b0, b1, b2, b3⟩, g0, g1, g2, g3⟩ := Own.cellsQ (show Own _ _ (rQ w.heap.size [.int .i64 0, .string ⟨#[]⟩, .slice none 0 0, .bool false] :: _) from hO4')
  have hO5 := hO4'.setQ [.int .i64 i, .string p.u, .slice ma p.maps.length mc, .bool p.ends] rfl
  have cr := Lib.hid (hO5.rangeQ rfl)
  have HP := Lib.hid (show ∃ mv : Value, Value.tuple #[.agg #[.int .i64 i, .string p.u, .slice ma p.maps.length mc, .bool p.ends], .bool true] = .tuple #[.agg #[.int .i64 i, .string p.u, mv, .bool p.ends], .bool true] ∧ VT w0 K L0 v X Y _ ∧ Own w _ [rowI mv p.maps] from ⟨_, rfl, H.out.later hO5.below, hO5.only (List.mem_cons_of_mem _ (List.mem_cons_of_mem _ (List.mem_cons_self ..)))⟩)
  clear hO3 hO4 hO4' hO5 h3 hcl HO2 H
  go_wp2_with fail
  refine bodyPost_ret (v := .tuple #[.agg ([.int .i64 i, .string p.u, .slice ma p.maps.length mc, .bool p.ends] : List Value).toArray, .bool true]) (ret_cell_tmpT Tryz.results46 rfl rfl cr.out Tryz.underlying101 rfl info_proc) rfl ?_
  obtain ⟨mv, e1, e2, e3⟩ := HP.out
  exact ⟨mv, congrArg Ending.returned e1, e2, e3⟩
end
end Go.Proofs.YtnjabanjgckeoaaGreatDoor
end

/- What was packed is unpacked as it is; a record is done again. -/
section
namespace Go.Proofs.YtnjabanjgckeoaaGreatDoor
open Go.RowKit
open Go.ChangeMaps (setBlock)
set_option linter.unusedVariables false
set_option linter.unusedSimpArgs false
set_option maxRecDepth 100000

def toOpB (o : OpD × List Int) : OpB := ⟨o.1.kind, sb o.1.p, sb o.1.q, o.2⟩
theorem packsD_B (ops : List (OpD × List Int)) : packsD ops = packsB (ops.map toOpB) := by
  unfold packsD packsB
  rw [List.map_map]
  congr 1
  apply List.map_congr_left
  intro o _
  simp [packD, packB, toOpB, Function.comp]
/-- Operations that were packed, as Do takes them. -/
def toOpE (o : OpB) : OpE := ⟨o.κ, o.p.map fun z => UInt8.ofNat z.toNat, o.q.map fun z => UInt8.ofNat z.toNat, o.d⟩
section
variable {w0 w w' : World} {S S' S1 : Blocks} {R L L' L1 M : List Rw} {v c n d t : Nat} {T T' Tc T1 : Tr} {K : Blocks} {sv : Value} {zs : List Int} {E : Et} {B : Nat}
/-- Operations that were unpacked, as Do takes them. -/
def RedoAt (w0 : World) (S : Blocks) (L : List Rw) (t : Nat) (T : Tr) (w : World) (E1 : Et) (e : Ending) (w' : World) : Prop :=
  ∃ ids : List Int, ids.Perm (looseE E1.nodes) ∧ DoL w0 S L t T w (fun T' => Rep T' (reapE E1 ids)) (.bool true) e w'
end
end Go.Proofs.YtnjabanjgckeoaaGreatDoor
end

/- A volume that lies on a disk is opened again. -/
section
namespace Go.Proofs.YtnjabanjgckeoaaGreatDoor
open Go.RowKit
open Go.ChangeMaps (setBlock)
set_option linter.unusedVariables false
set_option linter.unusedSimpArgs false
set_option maxRecDepth 100000

section
variable {w0 w w' : World} {S S' S1 : Blocks} {R L L' L1 M : List Rw} {v c n d t : Nat} {T T' Tc T1 : Tr} {K : Blocks} {sv : Value} {zs : List Int} {E : Et} {B : Nat}
/-- Records that are operations, and the trees that they make one behind the other. -/
structure Redos (q : Int) (ls : List (List OpB)) (Es : Nat → Et) : Prop where
  first : Es 0 = E0 (max q 0)
  ok : ∀ k (h : k < ls.length), 0 < ls[k].length ∧ (∀ o ∈ ls[k], OkB o) ∧ (packsB ls[k]).length ≤ 100000 ∧ ls[k].length ≤ 100 ∧ (DoE (Es k) (ls[k].map toOpE)).1 = 0 ∧ ∀ ids : List Int, ids.Perm (looseE (DoE (Es k) (ls[k].map toOpE)).2.nodes) → reapE (DoE (Es k) (ls[k].map toOpE)).2 ids = Es (k + 1)
  many : ls.length ≤ 100
def recB2 (l : List OpB) : List Int := 111 :: packsB l
def MadeRel (w0 : World) (S : Blocks) (L : List Rw) (n t : Nat) (E : Et) (wr : World) : Prop :=
  ∃ S' L' T, Own ⟨w0, S'⟩ wr L' ∧ (∀ x ∈ L, x ∈ L') ∧ Tree S' (Pc L') t T ∧ Rep T E ∧ (∀ b x, (b, x) ∈ S → (b, x) ∈ S') ∧ (∀ b ∈ t :: T.foot, n ≤ b)
end
end Go.Proofs.YtnjabanjgckeoaaGreatDoor
end

/- A volume that lies on a disk is opened. -/
section
namespace Go.Proofs.YtnjabanjgckeoaaGreatDoor
open Go.RowKit
open Go.ChangeMaps (setBlock)
set_option linter.unusedVariables false
set_option linter.unusedSimpArgs false
set_option maxRecDepth 100000

section
variable {w0 w w' : World} {S S' S1 : Blocks} {R L L' L1 M : List Rw} {v c n d t : Nat} {T T' Tc T1 : Tr} {K : Blocks} {sv : Value} {zs : List Int} {E : Et} {B : Nat}
def liveX (t d l hm : Nat) (E : Et) (B : Nat) (D : Dk) (n h side used st : Nat) (recs : List (List Int)) : VX := ⟨t, d, l, hm, E, B, [], D, n, h, side, used, st, recs⟩
end
end Go.Proofs.YtnjabanjgckeoaaGreatDoor
end

/- The law's volumes, as plain data. -/
section
namespace Go.Proofs.YtnjabanjgckeoaaGreatDoor
open Go.RowKit
open Go.ChangeMaps (setBlock)
set_option linter.unusedVariables false
set_option linter.unusedSimpArgs false
set_option maxRecDepth 100000

def pF : List UInt8 := [47, 102]
def pGg : List UInt8 := [47, 103]
def EV1 (q : Int) (A : List Int) : Et := ⟨q, 3, [(1, ⟨true, [(toB [102], 2)], [], 0⟩), (2, ⟨false, [], A, 1⟩)]⟩
def EVm (q : Int) (A B : List Int) : Et := ⟨q, 4, [(1, ⟨true, [(toB [102], 2), (toB [103], 3)], [], 0⟩), (2, ⟨false, [], A, 1⟩), (3, ⟨false, [], B, 1⟩)]⟩
def EV2 (q : Int) (A B : List Int) : Et := ⟨q, 4, [(1, ⟨true, [(toB [102], 3)], [], 0⟩), (2, ⟨false, [], A, 0⟩), (3, ⟨false, [], B, 1⟩)]⟩
def EV3 (q : Int) (B : List Int) : Et := ⟨q, 4, [(1, ⟨true, [(toB [102], 3)], [], 0⟩), (3, ⟨false, [], B, 1⟩)]⟩
def EVu (q : Int) (A : List Int) : Et := ⟨q, 3, [(1, ⟨true, [], [], 0⟩), (2, ⟨false, [], A, 0⟩)]⟩
def EVn (q : Int) : Et := ⟨q, 3, [(1, ⟨true, [], [], 0⟩)]⟩
def oA (A : List Int) : OpB := ⟨2, [47, 102], [], A⟩
def oB (B : List Int) : OpB := ⟨2, [47, 103], [], B⟩
def oR : OpB := ⟨5, [47, 103], [47, 102], []⟩
def lsH (A B : List Int) : List (List OpB) := [[oA A], [oB B, oR]]
def EsH (A B : List Int) : Nat → Et
  | 0 => E0 5000
  | 1 => EV1 5000 A
  | _ => EV3 5000 B
section
variable {w0 w w' : World} {S S' S1 : Blocks} {R L L' L1 M : List Rw} {v c n d t b : Nat} {T T' Tc T1 : Tr} {K : Blocks} {sv : Value} {zs : List Int} {E : Et} {B : Nat} {ops : List OpD} {xs : List OpE} {C : Array Value}
/-- Operations that are written out. -/
theorem op_noneV (k : Int) (p q : ByteArray) (hp : p.size ≤ 1000) (hq : q.size ≤ 1000) : OpIn w0 S L ⟨k, p, q, none, 0, 0⟩ ⟨k, p.data.toList, q.data.toList, []⟩ :=
  ⟨rfl, rfl, rfl, by unfold maxLen; show p.size ≤ _; omega, by unfold maxLen; show q.size ≤ _; omega, rfl, .inl (Pc.nil L)⟩
end
end Go.Proofs.YtnjabanjgckeoaaGreatDoor
end

/- The document's example of a volume. -/
section
namespace Go.Proofs.YtnjabanjgckeoaaGreatDoor
open Go.RowKit
open Go.ChangeMaps (setBlock)
set_option linter.unusedVariables false
set_option linter.unusedSimpArgs false
set_option maxRecDepth 100000

section
variable {w0 w w' : World} {S S' S1 : Blocks} {R L L' L1 M : List Rw} {v c n d t b : Nat} {X : VX} {T T' Tc T1 : Tr} {K : Blocks} {sv : Value} {zs : List Int} {E : Et} {ops : List OpD} {xs : List OpE} {C : Array Value}
def oU : OpB := ⟨6, [47, 102], [], []⟩
end
def one7 : List Int := [111, 110, 101]
abbrev lit7 : Obj := .cells #[.int .u8 111, .int .u8 110, .int .u8 101] 5 (3, 4)
end Go.Proofs.YtnjabanjgckeoaaGreatDoor
end

/- The law's volume with some files. -/
section
namespace Go.Proofs.YtnjabanjgckeoaaGreatDoor
open Go.RowKit
open Go.ChangeMaps (setBlock)
set_option linter.unusedVariables false
set_option linter.unusedSimpArgs false
set_option maxRecDepth 100000

def pFa : List UInt8 := [47, 97]
def pFb : List UInt8 := [47, 98]
def pFd : List UInt8 := [47, 100]
def pFc : List UInt8 := [47, 100, 47, 99]
def EO : Et := ⟨2000, 6, [(1, ⟨true, [(toB [97], 2), (toB [98], 3), (toB [100], 4)], [], 0⟩), (2, ⟨false, [], [97], 1⟩), (3, ⟨false, [], [], 1⟩), (4, ⟨true, [(toB [99], 5)], [], 0⟩), (5, ⟨false, [], [], 1⟩)]⟩
abbrev lit1 : Obj := .cells #[.int .u8 97] 5 (1, 2)
def recL : List OpB := [⟨2, [47, 97], [], [97]⟩, ⟨2, [47, 98], [], []⟩, ⟨0, [47, 100], [], []⟩, ⟨2, [47, 100, 47, 99], [], []⟩]
section
variable {w0 w w' : World} {S S' S1 : Blocks} {R L L' L1 M : List Rw} {v c n d t b : Nat} {X : VX} {T T' Tc T1 : Tr} {K : Blocks}
def opsO (a : Option Addr) (cp : Nat) : List OpD := [⟨2, toB pFa, ⟨#[]⟩, a, 1, cp⟩, ⟨2, toB pFb, ⟨#[]⟩, none, 0, 0⟩, ⟨0, toB pFd, ⟨#[]⟩, none, 0, 0⟩, ⟨2, toB pFc, ⟨#[]⟩, none, 0, 0⟩]
def xsO : List OpE := [⟨2, pFa, [], [97]⟩, ⟨2, pFb, [], []⟩, ⟨0, pFd, [], []⟩, ⟨2, pFc, [], []⟩]
end
end Go.Proofs.YtnjabanjgckeoaaGreatDoor
end

/- The document's example of what runs. -/
section
namespace Go.Proofs.YtnjabanjgckeoaaGreatDoor
open Go.RowKit
open Go.ChangeMaps (setBlock)
set_option linter.unusedVariables false
set_option linter.unusedSimpArgs false
set_option maxRecDepth 100000

section
variable {w0 w w' : World} {S S' S1 : Blocks} {R L L' L1 M L0 : List Rw} {v c n d : Nat} {X X' X1 X2 : VX} {T T' Tc T1 : Tr} {Y Y' : Tab} {K K' : Blocks} {fv : Value} {acc : List Int}
end
theorem owned_form {w : World} {b e size n : Nat} {v : Value} {xs : List Value} (h : w.ownsRow b e size v n xs) : ∃ a c, v = .slice a n c := by
  rcases h.2 with ⟨rfl, rfl⟩ | ⟨g, cp, cur, rfl, _⟩
  · exact ⟨_, _, rfl⟩
  · exact ⟨_, _, rfl⟩
def pFx : List UInt8 := [47, 120]
def uU : ByteArray := ⟨#[117]⟩
end Go.Proofs.YtnjabanjgckeoaaGreatDoor
end

/- The document's example of what runs: the walk. -/
section
namespace Go.Proofs.YtnjabanjgckeoaaGreatDoor
open Go.RowKit
open Go.ChangeMaps (setBlock)
set_option linter.unusedVariables false
set_option linter.unusedSimpArgs false
set_option maxRecDepth 100000

end Go.Proofs.YtnjabanjgckeoaaGreatDoor
end

/- The volume of law 16: a directory and five files in it, done at once; plain, and as a call of Do. -/
section
namespace Go.Proofs.YtnjabanjgckeoaaGreatDoor
open Go.RowKit
open Go.ChangeMaps (setBlock)
set_option linter.unusedVariables false
set_option linter.unusedSimpArgs false
set_option maxRecDepth 100000

def pBin : List UInt8 := [47, 98, 105, 110]
def pBinS : List UInt8 := [47, 98, 105, 110, 47]
def nmsM : List (List UInt8) := [[97], [98], [99], [100], [101]]
def opM (k : Int) (p : List UInt8) : OpD := ⟨k, toB p, ⟨#[]⟩, none, 0, 0⟩
def opsM : List OpD := opM 0 pBin :: nmsM.map fun n => opM 2 (pBinS ++ n)
def xsM : List OpE := ⟨0, pBin, [], []⟩ :: nmsM.map fun n => ⟨2, pBinS ++ n, [], []⟩
def recM : List OpB := [⟨0, [47, 98, 105, 110], [], []⟩, ⟨2, [47, 98, 105, 110, 47, 97], [], []⟩, ⟨2, [47, 98, 105, 110, 47, 98], [], []⟩, ⟨2, [47, 98, 105, 110, 47, 99], [], []⟩, ⟨2, [47, 98, 105, 110, 47, 100], [], []⟩, ⟨2, [47, 98, 105, 110, 47, 101], [], []⟩]
def EM : Et := ⟨3000, 8, [(1, ⟨true, [(toB [98, 105, 110], 2)], [], 0⟩), (2, ⟨true, [(toB [97], 3), (toB [98], 4), (toB [99], 5), (toB [100], 6), (toB [101], 7)], [], 0⟩), (3, ⟨false, [], [], 1⟩), (4, ⟨false, [], [], 1⟩), (5, ⟨false, [], [], 1⟩), (6, ⟨false, [], [], 1⟩), (7, ⟨false, [], [], 1⟩)]⟩
theorem do_M : DoE (E0 3000) xsM = (0, EM) := by rfl
theorem loose_M : looseE EM.nodes = [] := by rfl
theorem len_M : (recB2 recM).length = 131 := by rfl
theorem recO_M : recO (pks opsM xsM) = recB2 recM := by
  show 111 :: packsD _ = 111 :: packsB _
  rw [packsD_B]; rfl
theorem mem_opsM {o : OpD} (h : o ∈ opsM) : (0 ≤ o.kind ∧ o.kind < 4294967296) ∧ (o.p.size ≤ 100000 ∧ o.q.size ≤ 100000) ∧ o.q = ⟨#[]⟩ := by
  rcases List.mem_cons.1 h with rfl | h
  · exact ⟨by show (0 : Int) ≤ 0 ∧ (0 : Int) < 4294967296; decide, by show (toB pBin).size ≤ 100000 ∧ (0 : Nat) ≤ 100000; decide, rfl⟩
  · obtain ⟨n, hn, rfl⟩ := List.mem_map.1 h
    refine ⟨by show (0 : Int) ≤ 2 ∧ (2 : Int) < 4294967296; decide, ⟨?_, by show (0 : Nat) ≤ 100000; decide⟩, rfl⟩
    simp only [nmsM, List.mem_cons, List.not_mem_nil, or_false] at hn
    rcases hn with rfl | rfl | rfl | rfl | rfl <;> decide
section
variable {w0 w w' : World} {S S' S1 : Blocks} {R L L' L1 M : List Rw} {v c n d t b : Nat} {X : VX} {T T' Tc T1 : Tr} {K : Blocks}
/-- Operations in a row of the law's. -/
theorem Ops.rowD {a : Option Addr} {cp : Nat} {ops : List OpD} {xs : List OpE} (hm : rowO (.slice a ops.length cp) ops ∈ L) (hlen : xs.length = ops.length) (hin : ∀ i (h : i < ops.length), OpIn w0 S L ops[i] (xs[i]'(by omega))) : Ops w0 S L a ops xs := by
  refine ⟨hlen, fun w' S' L' k1 k2 k3 i hi => ?_, hin⟩
  have hrow := k1.only (k3 _ hm)
  obtain ⟨g, cp2, e, _⟩ := Own.form (h := (show Own ⟨w0, S'⟩ w' (⟨84, 4, .slice a ops.length cp, ops.length, (ops.map OpD.cells).flatten⟩ :: []) from hrow)) (by omega)
  injection e with e1 e2 e3
  subst e1
  refine ⟨g, 0, rfl, fun j u hj => ?_⟩
  have hj4 : j < 4 := by
    have := (List.getElem?_eq_some_iff.1 hj).1
    exact this
  have hrow2 : Own ⟨w0, S'⟩ w' (⟨84, 4, .slice (some ⟨g, 0, none⟩) ops.length cp, ops.length, (ops.map OpD.cells).flatten⟩ :: []) := hrow
  have h6 := Own.cell (h := hrow2) (i * 4 + j) (by omega)
  rw [Nat.zero_add, h6, flatO _ i j hi hj4]
  exact hj
theorem vdo_M (h : VolIn w0 S R L v X T w) (hm : Mx w0) {a : Option Addr} {cp cap : Nat} (hr : rowO (.slice a 6 cp) opsM ∈ L) (hX : X.E = E0 3000) (hB : X.B = 0) (hu : X.used = 0) (hh : 49 ≤ X.h) (hst : X.st = 3) (hH : X.held = []) :
    Calls Tryz.prog 37 #[.pointer (some ⟨v, 0, none⟩), .slice a 6 cap] w fun e w' => e = .returned (.int .i64 0) ∧ ∃ X', VolTo w0 S L v X T w.heap.size X' w' ∧ X'.E = EM ∧ X'.held = [] ∧ X'.t = X.t := by
  have hE : DoE (E0 3000) xsM = (0, EM) := do_M
  have := vdo_yes h hm (ops := opsM) (xs := xsM) (Ops.rowD hr rfl (fun i hi => by
    match i, hi with
    | 0, _ => exact op_noneV 0 (toB pBin) ⟨#[]⟩ (by decide) (by decide)
    | 1, _ => exact op_noneV 2 (toB [47, 98, 105, 110, 47, 97]) ⟨#[]⟩ (by decide) (by decide)
    | 2, _ => exact op_noneV 2 (toB [47, 98, 105, 110, 47, 98]) ⟨#[]⟩ (by decide) (by decide)
    | 3, _ => exact op_noneV 2 (toB [47, 98, 105, 110, 47, 99]) ⟨#[]⟩ (by decide) (by decide)
    | 4, _ => exact op_noneV 2 (toB [47, 98, 105, 110, 47, 100]) ⟨#[]⟩ (by decide) (by decide)
    | 5, _ => exact op_noneV 2 (toB [47, 98, 105, 110, 47, 101]) ⟨#[]⟩ (by decide) (by decide)
    | n + 6, h => exact absurd h (by simp [opsM, nmsM]))) cap (fun o ho => (mem_opsM ho).1) (fun o ho => (mem_opsM ho).2.1) (fun x hx => by
      rcases List.mem_cons.1 hx with rfl | hx
      · decide
      · obtain ⟨n, _, rfl⟩ := List.mem_map.1 hx
        show (0 : Nat) ≤ 100000; decide) (fun o ho => .inr (.inr (mem_opsM ho).2.2)) (by show 0 < 6; decide) (by rw [hB]; show 0 + 6 ≤ 100000; decide) (by rw [hX, hE]) (by rw [recO_M, len_M]; decide) (by rw [recO_M, len_M, hu]; unfold roomM; omega) (by omega) (by rw [hX, hE, loose_M]; intro i hi; cases hi)
  refine this.mono fun e w' hd2 => ?_
  obtain ⟨e1, D', k⟩ := hd2
  refine ⟨e1, _, k, ?_, ?_, rfl⟩
  · show (DoE X.E xsM).2 = EM
    rw [hX, hE]
  · exact hH
end
end Go.Proofs.YtnjabanjgckeoaaGreatDoor
end

/- Operations, numbers, and batches of both, as arguments. -/
section
namespace Go.Proofs.YtnjabanjgckeoaaGreatDoor
open Go.RowKit Go.WideShapes Go.ChangeShapes
set_option linter.unusedVariables false
set_option linter.unusedSimpArgs false
set_option maxRecDepth 100000

def Nums (w : World) (a : Option Addr) (l : List Int) : Prop := ∀ i (h : i < l.length), ∃ g off, a = some ⟨g, off, none⟩ ∧ w.cell? ⟨g, off + i, none⟩ = some (.int .i64 l[i])
structure Bat where
  a : Option Addr
  c : Nat
  ops : List OpD
  xs : List OpE
  ra : Option Addr
  rc : Nat
  reap : List Int
abbrev Bat.cells (b : Bat) : List Value := [.slice b.a b.ops.length b.c, .slice b.ra b.reap.length b.rc]
structure BatOld (w : World) (b : Bat) : Prop where
  ops : OpsA w b.a b.ops b.xs
  reap : Nums w b.ra b.reap
  few : b.reap.length ≤ maxLen
  wf : ∀ n ∈ b.reap, (Lit.int .i64 n).wf = true
def Bats (w : World) (a : Option Addr) (bs : List Bat) : Prop := ∀ i (h : i < bs.length), (∃ g off, a = some ⟨g, off, none⟩ ∧ w.rangeAt g (off + i * 2) bs[i].cells) ∧ BatOld w bs[i]
def bulkB (bs : List Bat) : Nat := (bs.map fun b => 1 + b.ops.length).sum
end Go.Proofs.YtnjabanjgckeoaaGreatDoor
end

/- ProcNumbers: its arguments, what always holds of the numbers. -/
section
namespace Go.Proofs.YtnjabanjgckeoaaGreatDoor
open Go.RowKit Go.WideShapes Go.ChangeShapes
set_option linter.unusedVariables false
set_option linter.unusedSimpArgs false
set_option maxRecDepth 100000

def ActsA (w : World) (a : Option Addr) (l : List (Int × Int)) : Prop := ∀ i (h : i < l.length), ∃ (g off : Nat) (f : Int) (pa : Option Addr) (pn pc : Nat), a = some ⟨g, off, none⟩ ∧ w.rangeAt g (off + i * 4) [.int .i64 l[i].1, .int .i64 l[i].2, .int .i64 f, .slice pa pn pc]
structure NumOk (k : Nat) (X : VX) (Y : Tab) : Prop where
  last : 0 ≤ Y.last ∧ Y.last ≤ k
  keys : (Y.runs.map (·.1)).Nodup
  each : ∀ p ∈ Y.runs, (1 ≤ p.1 ∧ p.1 ≤ Y.last) ∧ p.2.maps = []
  few : Y.runs.length ≤ k
  held : HeldOk 0 X
def NumSt (w0 : World) (v tb n : Nat) (last i : Value) (wr : World) : Prop :=
  ∃ (k : Nat) (X : VX) (Y : Tab), k ≤ n ∧ i = .int .i64 k ∧ last = .int .i64 Y.last ∧ Y.tb = tb ∧ NumOk k X Y ∧ VT w0 [] [] v X Y wr
end Go.Proofs.YtnjabanjgckeoaaGreatDoor
end

/- ProcNumbers: the walk. -/
section
namespace Go.Proofs.YtnjabanjgckeoaaGreatDoor
open Go.RowKit
open Go.ChangeMaps (setBlock)
set_option linter.unusedVariables false
set_option linter.unusedSimpArgs false
set_option maxRecDepth 100000

end Go.Proofs.YtnjabanjgckeoaaGreatDoor
end

/- ProcEnds: what runs, and how often each file is held, as plain data. -/
section
namespace Go.Proofs.YtnjabanjgckeoaaGreatDoor
open Go.RowKit
set_option linter.unusedVariables false
set_option linter.unusedSimpArgs false
set_option maxRecDepth 100000

/-- The example's files, each a path and its number. -/
def P3 : List (List UInt8 × Int) := [(pFa, 2), (pFb, 3), (pFc, 5)]
def tot (rs : List (Int × List Int)) (j : Int) : Nat := (rs.map fun q => q.2.count j).sum
def runsM (Y : Tab) : List (Int × List Int) := Y.runs.map fun q => (q.1, q.2.maps)
structure EndOk (M : Nat) (X : VX) (Y : Tab) : Prop where
  E : X.E = EO
  held : HeldOk M X
  keys : (Y.runs.map (·.1)).Nodup
  cnt : ∀ j, heldN X.held j = (tot (runsM Y) j : Nat)
end Go.Proofs.YtnjabanjgckeoaaGreatDoor
end

/- A volume and a table over it, beside rows that grow: a row that rests while the table is called (its block is known), a known block that is turned. -/
section
namespace Go.Proofs.YtnjabanjgckeoaaGreatDoor
open Go.RowKit
open Go.ChangeMaps (setBlock)
set_option linter.unusedVariables false
set_option linter.unusedSimpArgs false

/-- VT, and rows on top that nothing else speaks of. -/
def VTX (w0 : World) (K : Blocks) (L0 : List Rw) (v : Nat) (X : VX) (Y : Tab) (rs : List Rw) (w : World) : Prop :=
  ∃ S R L T, Own ⟨w0, S⟩ w (rs ++ (R ++ L)) ∧ VolIn w0 S R L v X T w ∧ TabIn S L v Y ∧ (∀ b ∈ Y.foot, b ∉ v :: X.hm :: X.t :: T.foot) ∧ (∀ x ∈ L0, x ∈ L) ∧ (∀ b x, (b, x) ∈ K → (b, x) ∈ S ∧ b ∉ v :: X.hm :: X.t :: T.foot ∧ b ∉ Y.foot)
section
variable {w0 w w' : World} {S S' : Blocks} {R L L' L0 rs : List Rw} {v g n cap e size : Nat} {X : VX} {T : Tr} {Y : Tab} {K : Blocks} {vv : Value} {xs : List Value} {cur : Array Value}
theorem VTX.vt (h : VTX w0 K L0 v X Y rs w) : VT w0 K L0 v X Y w := by
  obtain ⟨S, R, L, T, _, h1, h2, h3, h4, h5⟩ := h
  exact ⟨S, R, L, T, h1, h2, h3, h4, h5⟩
theorem VT.vtx (h : VT w0 K L0 v X Y w) : VTX w0 K L0 v X Y [] w := by
  obtain ⟨S, R, L, T, h1, h2, h3, h4, h5⟩ := h
  exact ⟨S, R, L, T, h1.own, h1, h2, h3, h4, h5⟩
theorem Own.under (h : Own ⟨w0, S⟩ w (rs ++ L)) : Own ⟨w0, S⟩ w L :=
  ⟨h.below, fun p hp => h.rows p (List.mem_append_right _ hp), (List.pairwise_append.1 h.apart).2.1, h.maps, fun m hm p hp => h.offmaps m hm p (List.mem_append_right _ hp)⟩
/-- The rows on top are worked on. -/
theorem VTX.grow (h : VTX w0 K L0 v X Y rs w) : ∃ S N, Own ⟨w0, S⟩ w (rs ++ N) ∧ (∀ b x, (b, x) ∈ K → (b, x) ∈ S) ∧ ∀ w' rs', Own ⟨w0, S⟩ w' (rs' ++ N) → VTX w0 K L0 v X Y rs' w' := by
  obtain ⟨S, R, L, T, h0, h1, h2, h3, h4, h5⟩ := h
  exact ⟨S, R ++ L, h0, fun b x hb => (h5 b x hb).1, fun w' rs' hO => ⟨S, R, L, T, hO, h1.base hO.under fun b x hx _ => hx, h2, h3, h4, h5⟩⟩
/-- A known block is turned. -/
theorem VTX.turnK {b : Nat} {x : Obj} (h : VTX w0 ((b, x) :: K) L0 v X Y rs w) (hK : ∀ c y, (c, y) ∈ K → c ≠ b) (y : Obj) : VTX w0 ((b, y) :: K) L0 v X Y rs (setBlock w b y) := by
  obtain ⟨S, R, L, T, h0, h1, h2, h3, h4, h5⟩ := h
  obtain ⟨hb, hb2, hb3⟩ := h5 b x (List.mem_cons_self ..)
  have hO := h0.setB hb y
  refine ⟨upd S b y, R, L, T, hO, h1.base hO.under fun c z hz hc => upd_other (b := b) hz (fun e => hb2 (by rw [← e]; exact hc)) _, h2.mono (fun c z hc hz => upd_other (b := b) hz (fun e => hb3 (by rw [← e]; exact hc)) _) (fun _ hx => hx), h3, h4, fun c z hc => ?_⟩
  rcases List.mem_cons.1 hc with e | hc
  · obtain ⟨rfl, rfl⟩ := Prod.mk.inj e
    exact ⟨upd_same hb _, hb2, hb3⟩
  · obtain ⟨q1, q2, q3⟩ := h5 c z (List.mem_cons_of_mem _ hc)
    exact ⟨upd_other q1 (hK c z hc) _, q2, q3⟩
/-- The topmost row rests: its block is a known one. -/
theorem VTX.freeze (h : VTX w0 K L0 v X Y (⟨e, size, vv, n, xs⟩ :: rs) w) :
    (vv = .slice none 0 0 ∧ n = 0 ∧ xs = [] ∧ VTX w0 K L0 v X Y rs w) ∨ ∃ g cap cur, vv = .slice (some ⟨g, 0, none⟩) n cap ∧ n ≤ cap ∧ cap ≤ maxLen ∧ cur.size = cap * size ∧ cur.toList.take (n * size) = xs ∧ w0.heap.size ≤ g ∧ VTX w0 ((g, .cells cur e (0, 0)) :: K) L0 v X Y rs w ∧ ∀ b x, (b, x) ∈ K → b ≠ g := by
  obtain ⟨S, R, L, T, h0, h1, h2, h3, h4, h5⟩ := h
  have h0' : Own ⟨w0, S⟩ w (⟨e, size, vv, n, xs⟩ :: (rs ++ (R ++ L))) := h0
  have hrow := h0'.rows _ (List.mem_cons_self ..)
  have hoff := fun m (hm : m ∈ S) => h0'.offmaps m hm _ (List.mem_cons_self ..)
  rcases hrow.2 with ⟨e1, e2⟩ | ⟨g, cap, cur, e1, hg, hb, k1, k2, k3, k4⟩
  · left
    have hx : xs = [] := List.eq_nil_of_length_eq_zero (by have := hrow.1; rw [show n = 0 from e2, Nat.zero_mul] at this; exact this)
    exact ⟨e1, e2, hx, S, R, L, T, h0'.tail, h1, h2, h3, h4, h5⟩
  · right
    have e1' : vv = .slice (some ⟨g, 0, none⟩) n cap := e1
    have hne : ∀ m ∈ S, m.1 ≠ g := fun m hm em => hoff m hm (by show vv.ownBlock = some m.1; rw [e1', em]; rfl)
    have hO : Own ⟨w0, (g, .cells cur e (0, 0)) :: S⟩ w (rs ++ (R ++ L)) := by
      refine ⟨h0'.below, h0'.tail.rows, h0'.tail.apart, fun m hm => ?_, fun m hm p hp => ?_⟩
      · rcases List.mem_cons.1 hm with rfl | hm
        · exact ⟨hg, hb⟩
        · exact h0'.maps m hm
      · rcases List.mem_cons.1 hm with rfl | hm
        · intro em
          have := (List.pairwise_cons.1 h0'.apart).1 p hp
          rw [show (⟨e, size, vv, n, xs⟩ : Rw).v = vv from rfl, e1'] at this
          rcases this with k | k
          · cases k
          · exact k em.symm
        · exact h0'.tail.offmaps m hm p hp
    have hgv : g ∉ v :: X.hm :: X.t :: T.foot := fun hm => by
      obtain ⟨o, ho⟩ := h1.mem hm
      exact hne _ ho rfl
    have hgy : g ∉ Y.foot := fun hm => by
      obtain ⟨o, ho⟩ := h2.mem g hm
      exact hne _ ho rfl
    refine ⟨g, cap, cur, e1', k1, k2, k3, k4, hg, ⟨_, R, L, T, hO, h1.base hO.under fun b x hx _ => List.mem_cons_of_mem _ hx, h2.mono (fun b x _ hx => List.mem_cons_of_mem _ hx) (fun _ hx => hx), h3, h4, fun b x hb => ?_⟩, fun b x hb => hne (b, x) (h5 b x hb).1⟩
    rcases List.mem_cons.1 hb with em | hb
    · obtain ⟨rfl, rfl⟩ := Prod.mk.inj em
      exact ⟨List.mem_cons_self .., hgv, hgy⟩
    · obtain ⟨q1, q2, q3⟩ := h5 b x hb
      exact ⟨List.mem_cons_of_mem _ q1, q2, q3⟩
/-- A row that rested is worked on again. -/
theorem VTX.thaw (h : VTX w0 ((g, .cells cur e (0, 0)) :: K) L0 v X Y rs w) (hK : ∀ b x, (b, x) ∈ K → b ≠ g) (k1 : n ≤ cap) (k2 : cap ≤ maxLen) (k3 : cur.size = cap * size) (k4 : cur.toList.take (n * size) = xs) (hl : xs.length = n * size) :
    VTX w0 K L0 v X Y (⟨e, size, .slice (some ⟨g, 0, none⟩) n cap, n, xs⟩ :: rs) w := by
  obtain ⟨S, R, L, T, h0, h1, h2, h3, h4, h5⟩ := h
  obtain ⟨hb, hb2, hb3⟩ := h5 g _ (List.mem_cons_self ..)
  have hsub : ∀ m, m ∈ S.filter (fun m => decide (m.1 ≠ g)) → m ∈ S ∧ m.1 ≠ g := fun m hm => by
    obtain ⟨q1, q2⟩ := List.mem_filter.1 hm
    exact ⟨q1, of_decide_eq_true q2⟩
  have hin : ∀ b x, (b, x) ∈ S → b ≠ g → (b, x) ∈ S.filter (fun m => decide (m.1 ≠ g)) := fun b x hx hne => List.mem_filter.2 ⟨hx, decide_eq_true hne⟩
  have hO : Own ⟨w0, S.filter (fun m => decide (m.1 ≠ g))⟩ w (⟨e, size, .slice (some ⟨g, 0, none⟩) n cap, n, xs⟩ :: (rs ++ (R ++ L))) := by
    refine ⟨h0.below, fun p hp => ?_, List.pairwise_cons.2 ⟨fun q hq => ?_, h0.apart⟩, fun m hm => h0.maps m (hsub m hm).1, fun m hm p hp => ?_⟩
    · rcases List.mem_cons.1 hp with rfl | hp
      · exact ⟨hl, .inr ⟨g, cap, cur, rfl, (h0.maps _ hb).1, (h0.maps _ hb).2, k1, k2, k3, k4⟩⟩
      · exact h0.rows p hp
    · right
      intro em
      exact h0.offmaps _ hb q hq em.symm
    · rcases List.mem_cons.1 hp with rfl | hp
      · intro em
        have em' : some g = some m.1 := em
        exact (hsub m hm).2 (Option.some.inj em').symm
      · exact h0.offmaps m (hsub m hm).1 p hp
  refine ⟨_, R, L, T, hO, h1.base (hO.tail.under) fun b x hx hc => hin b x hx fun em => hb2 (em ▸ hc), h2.mono (fun b x hc hx => hin b x hx fun em => hb3 (em ▸ hc)) (fun _ hx => hx), h3, h4, fun b x hx => ?_⟩
  obtain ⟨q1, q2, q3⟩ := h5 b x (List.mem_cons_of_mem _ hx)
  exact ⟨hin b x q1 (hK b x hx), q2, q3⟩
end
end Go.Proofs.YtnjabanjgckeoaaGreatDoor
end

/- ProcEnds: which files a row asks for; the law's own count of them. -/
section
namespace Go.Proofs.YtnjabanjgckeoaaGreatDoor
open Go.RowKit
open Go.ChangeMaps (setBlock)
set_option linter.unusedVariables false
set_option linter.unusedSimpArgs false
set_option maxRecDepth 100000

/-- A number's bit, as the walk reads it. -/
def bitN (n : Int) (k : Nat) : Bool := bits .and .i64 (n / 2 ^ k) 1 == 1
/-- The first k files, those whose bit is set. -/
def sel (b : Nat → Bool) : Nat → List (List UInt8 × Int)
  | 0 => []
  | k + 1 => sel b k ++ (if b k then (P3[k]?).toList else [])
def rsOf (l : List Int) : Nat → List (Int × List Int)
  | 0 => []
  | k + 1 => rsOf l k ++ [((k : Int) + 1, (sel (bitN (l.getD k 0)) 3).map (·.2))]
abbrev KT (s : ByteArray) : Value := .string s
def names3 : Obj := .cells #[.string (toB pFa), .string (toB pFb), .string (toB pFc)] 9
def CntAt (o : Obj) (c : Int → Int) : Prop := ∃ m, MapO KT o m ∧ ∀ x ∈ P3, (look m (toB x.1)).getD (.int .i64 0) = .int .i64 (c x.2)
end Go.Proofs.YtnjabanjgckeoaaGreatDoor
end

/- ProcEnds: a thing is spawned while two rows rest. -/
section
namespace Go.Proofs.YtnjabanjgckeoaaGreatDoor
open Go.RowKit
open Go.ChangeMaps (setBlock)
set_option linter.unusedVariables false
set_option linter.unusedSimpArgs false
set_option maxRecDepth 100000

section
variable {w0 w w' : World} {K : Blocks} {L0 rs : List Rw} {v : Nat} {X : VX} {Y : Tab}
theorem VTX.nilrow (h : VTX w0 K L0 v X Y rs w) (e size : Nat) : VTX w0 K L0 v X Y (⟨e, size, .slice none 0 0, 0, []⟩ :: rs) w := by
  obtain ⟨S, N, hO, _, back⟩ := h.grow
  exact back _ _ (Own.nil hO e size)
theorem VTX.subK {K' : Blocks} (h : VTX w0 K L0 v X Y rs w) (hs : ∀ b x, (b, x) ∈ K' → (b, x) ∈ K) : VTX w0 K' L0 v X Y rs w := by
  obtain ⟨S, R, L, T, h0, h1, h2, h3, h4, h5⟩ := h
  exact ⟨S, R, L, T, h0, h1, h2, h3, h4, fun b x hb => h5 b x (hs b x hb)⟩
end
/-- What a spawn leaves. -/
def SpawnPost (w0 : World) (K : Blocks) (M v : Nat) (Y : Tab) (q : List (List UInt8 × Int)) (rs : List Rw) (w' : World) : Prop :=
  ∃ X' Y', Y'.tb = Y.tb ∧ Y'.last = Y.last + 1 ∧ runsM Y' = runsM Y ++ [(Y.last + 1, q.map (·.2))] ∧ EndOk (M + 3) X' Y' ∧ VTX w0 K [] v X' Y' rs w'
section
variable {w0 w w' : World} {K : Blocks} {rs : List Rw} {v M : Nat} {X : VX} {Y : Tab}
end
end Go.Proofs.YtnjabanjgckeoaaGreatDoor
end

/- ProcEnds: calls of the table while a row of numbers rests; what runs, row by row. -/
section
namespace Go.Proofs.YtnjabanjgckeoaaGreatDoor
open Go.RowKit
open Go.ChangeMaps (setBlock)
set_option linter.unusedVariables false
set_option linter.unusedSimpArgs false
set_option maxRecDepth 100000

end Go.Proofs.YtnjabanjgckeoaaGreatDoor
end

/- ProcEnds: a thing that is asked to end, and then ends. -/
section
namespace Go.Proofs.YtnjabanjgckeoaaGreatDoor
open Go.RowKit
set_option linter.unusedVariables false
set_option linter.unusedSimpArgs false
set_option maxRecDepth 100000

end Go.Proofs.YtnjabanjgckeoaaGreatDoor
end

/- ProcEnds: what the law asks of the volume and of the table beside a row. -/
section
namespace Go.Proofs.YtnjabanjgckeoaaGreatDoor
open Go.RowKit
set_option linter.unusedVariables false
set_option linter.unusedSimpArgs false
set_option maxRecDepth 100000

section
variable {w0 w w' : World} {K : Blocks} {L0 rs : List Rw} {v : Nat} {X : VX} {Y : Tab}
theorem VTX.later (h : VTX w0 K L0 v X Y rs w) (hb : Below w.heap.size w w') : VTX w0 K L0 v X Y rs w' := by
  obtain ⟨S, N, hO, _, back⟩ := h.grow
  exact back _ _ (hO.later hb)
end
end Go.Proofs.YtnjabanjgckeoaaGreatDoor
end

/- Units as plain data, names in order, behind which each stands, and how they are placed. Of no program. -/
section
namespace Go.Proofs.YtnjabanjgckeoaaGreatDoor
open Go.RowKit
set_option linter.unusedVariables false
set_option linter.unusedSimpArgs false

abbrev Nm := List UInt8
def leN (x y : Nm) : Bool := decide (x ≤ y)
theorem leN_trans (a b c : Nm) : leN a b = true → leN b c = true → leN a c = true := by
  unfold leN; simp only [decide_eq_true_eq]; exact fun h k => List.le_trans h k
theorem leN_total (a b : Nm) : (leN a b || leN b a) = true := by
  unfold leN; simp only [Bool.or_eq_true, decide_eq_true_eq]; exact List.le_total a b
theorem leN_anti {a b : Nm} (h : leN a b = true) (k : leN b a = true) : a = b := by
  unfold leN at h k; simp only [decide_eq_true_eq] at h k; exact List.le_antisymm h k
def insN (x : Nm) : List Nm → List Nm
  | [] => [x]
  | y :: r => if leN x y then x :: y :: r else y :: insN x r
def sortN : List Nm → List Nm
  | [] => []
  | x :: r => insN x (sortN r)
def InOrder (l : List Nm) : Prop := l.Pairwise fun a b => leN a b = true
theorem insN_perm (x : Nm) (l : List Nm) : (insN x l).Perm (x :: l) := by
  induction l with
  | nil => exact List.Perm.refl _
  | cons y r ih =>
    unfold insN
    split
    · exact List.Perm.refl _
    · exact (ih.cons y).trans (List.Perm.swap x y r)
theorem sortN_perm (l : List Nm) : (sortN l).Perm l := by
  induction l with
  | nil => exact List.Perm.refl _
  | cons x r ih => exact (insN_perm x _).trans (ih.cons x)
theorem insN_order (x : Nm) {l : List Nm} (h : InOrder l) : InOrder (insN x l) := by
  induction l with
  | nil => exact List.pairwise_singleton ..
  | cons y r ih =>
    have h' := List.pairwise_cons.1 h
    unfold insN
    split
    · rename_i hx
      refine List.pairwise_cons.2 ⟨fun z hz => ?_, h⟩
      rcases List.mem_cons.1 hz with rfl | hz
      · exact hx
      · exact leN_trans _ _ _ hx (h'.1 z hz)
    · rename_i hx
      have hyx : leN y x = true := by
        have := leN_total x y
        simp only [Bool.or_eq_true] at this
        exact this.resolve_left hx
      refine List.pairwise_cons.2 ⟨fun z hz => ?_, ih h'.2⟩
      rcases List.mem_cons.1 ((insN_perm x r).mem_iff.1 hz) with rfl | hz
      · exact hyx
      · exact h'.1 z hz
theorem sortN_order (l : List Nm) : InOrder (sortN l) := by
  induction l with
  | nil => exact List.Pairwise.nil
  | cons x r ih => exact insN_order x ih
theorem order_uniq {l m : List Nm} (hp : l.Perm m) (hl : InOrder l) (hm : InOrder m) : l = m :=
  hp.eq_of_pairwise (fun a b _ _ h k => leN_anti h k) hl hm
theorem sortN_eq {l m : List Nm} (hp : l.Perm m) : sortN l = sortN m := order_uniq ((sortN_perm l).trans (hp.trans (sortN_perm m).symm)) (sortN_order l) (sortN_order m)
theorem merge_sortN (l : List Nm) : (l.mergeSort fun x y => decide (x ≤ y)) = sortN l :=
  order_uniq ((List.mergeSort_perm l _).trans (sortN_perm l).symm) (List.pairwise_mergeSort leN_trans leN_total l) (sortN_order l)
theorem mem_sortN {x : Nm} {l : List Nm} : x ∈ sortN l ↔ x ∈ l := (sortN_perm l).mem_iff
theorem sortN_length (l : List Nm) : (sortN l).length = l.length := (sortN_perm l).length_eq
theorem sortN_nodup {l : List Nm} : (sortN l).Nodup ↔ l.Nodup := (sortN_perm l).nodup_iff
/-- Two lists in order, each name once, that have the same names are the same. -/
structure GU where
  name : Nm
  fi : List Nm
  af : List Nm
  be : List Nm
  re : List Nm
  wa : List Nm
  pa : List Nm
  ret : Int
def GU.zero : GU := ⟨[], [], [], [], [], [], [], 0⟩
def GU.lists (u : GU) : List (List Nm) := [u.fi, u.af, u.be, u.re, u.wa, u.pa]
def namesU (us : List GU) : List Nm := us.map (·.name)
def findU (us : List GU) (n : Nm) : GU := (us.find? fun u => decide (u.name = n)).getD GU.zero
def lacksU (us : List GU) (n : Nm) : Bool := (findU us n).re.any (fun x => !decide (x ∈ namesU us)) || (findU us n).pa.any (fun x => !decide (x ∈ namesU us))
/-- Does n stand right behind o? -/
def standU (us : List GU) (n : Nm) (o : GU) : Bool := decide (o.name ∈ (findU us n).af) || decide (o.name ∈ (findU us n).re) || decide (n ∈ o.be)
def aheadU (us : List GU) (n : Nm) : List Nm := sortN ((us.filter (standU us n)).map (·.name))
def freeN (beh : Nm → List Nm) (left : List Nm) (n : Nm) : Bool := !((beh n).any fun x => decide (x ∈ left))
/-- Where the first one is of which this holds; -1: nowhere. -/
def idxF (p : Nm → Bool) (l : List Nm) : Int := match l.findIdx? p with
  | none => -1
  | some k => (k : Int)
def placeN (beh : Nm → List Nm) : Nat → List Nm → List Nm → List Nm × List Nm
  | 0, ord, left => (ord, left)
  | f + 1, ord, left => match left.findIdx? (freeN beh left) with
    | none => (ord, left)
    | some k => placeN beh f (ord ++ [left.getD k []]) (left.eraseIdx k)
def placeU (us : List GU) : List Nm × List Nm := placeN (aheadU us) us.length [] (sortN (namesU us))
def badU (us : List GU) : Bool := (sortN (namesU us)).any (lacksU us)
def errU (us : List GU) : Int :=
  if 16 < us.length then 22 else if ¬ (namesU us).Nodup then 9 else if badU us then 16 else if (placeU us).2 ≠ [] then 19 else 0

theorem findU_mem {us : List GU} (hd : (namesU us).Nodup) {u : GU} (hu : u ∈ us) : findU us u.name = u := by
  unfold findU
  induction us with
  | nil => cases hu
  | cons x r ih =>
    have hd' := List.nodup_cons.1 hd
    rw [List.find?_cons]
    by_cases hx : x.name = u.name
    · rw [decide_eq_true hx]
      rcases List.mem_cons.1 hu with rfl | hu
      · rfl
      · exact absurd (show x.name ∈ r.map GU.name from by rw [hx]; exact List.mem_map.2 ⟨u, hu, rfl⟩) hd'.1
    · rw [decide_eq_false hx]
      rcases List.mem_cons.1 hu with rfl | hu
      · exact absurd rfl hx
      · exact ih hd'.2 hu
theorem mem_names {us : List GU} {n : Nm} : n ∈ namesU us ↔ ∃ u ∈ us, u.name = n := List.mem_map
theorem findU_of {us : List GU} (hd : (namesU us).Nodup) {n : Nm} (hn : n ∈ namesU us) : findU us n ∈ us ∧ (findU us n).name = n := by
  obtain ⟨u, hu, rfl⟩ := mem_names.1 hn
  rw [findU_mem hd hu]
  exact ⟨hu, rfl⟩
theorem findU_none {us : List GU} {n : Nm} (hn : n ∉ namesU us) : findU us n = GU.zero := by
  unfold findU
  rw [List.find?_eq_none.2 fun u hu => by
    simp only [decide_eq_true_eq]
    exact fun e => hn (mem_names.2 ⟨u, hu, e⟩)]
  rfl
theorem eraseIdx_cons_perm {α : Type} : ∀ (l : List α) (k : Nat) (h : k < l.length), (l[k] :: l.eraseIdx k).Perm l := by
  intro l
  induction l with
  | nil => intro k h; exact absurd h (Nat.not_lt_zero _)
  | cons x r ih =>
    intro k h
    cases k with
    | zero => exact List.Perm.refl _
    | succ k => exact (List.Perm.swap x _ _).trans ((ih k (by simpa using h)).cons x)
theorem idxF_cases (p : Nm → Bool) (l : List Nm) : (l.findIdx? p = none ∧ idxF p l = -1 ∧ ∀ x ∈ l, p x = false) ∨ ∃ k, ∃ h : k < l.length, l.findIdx? p = some k ∧ idxF p l = (k : Int) ∧ p l[k] = true ∧ ∀ j (hj : j < l.length), j < k → p l[j] = false := by
  unfold idxF
  cases h : l.findIdx? p with
  | none => exact .inl ⟨rfl, rfl, by simpa using h⟩
  | some k =>
    obtain ⟨h1, h2, h3⟩ := List.findIdx?_eq_some_iff_getElem.1 h
    exact .inr ⟨k, h1, rfl, rfl, h2, fun j hj hjk => by simpa using h3 j hjk⟩
/-- All of these that are placed stand behind placed ones only. -/
def Placed (beh : Nm → List Nm) (ord left : List Nm) : Prop := ∀ a n b, ord = a ++ n :: b → ∀ x ∈ beh n, x ∉ n :: b ++ left
theorem placeN_inv (beh : Nm → List Nm) : ∀ (f : Nat) (ord left : List Nm), Placed beh ord left → left.Nodup → (∀ x ∈ ord, x ∉ left) →
    Placed beh (placeN beh f ord left).1 (placeN beh f ord left).2 ∧ ((placeN beh f ord left).1 ++ (placeN beh f ord left).2).Perm (ord ++ left) ∧ (left.length ≤ f → ∀ x ∈ (placeN beh f ord left).2, freeN beh (placeN beh f ord left).2 x = false) := by
  intro f
  induction f with
  | zero =>
    intro ord left h1 _ _
    refine ⟨h1, List.Perm.refl _, fun hl x hx => ?_⟩
    have : left = [] := List.eq_nil_of_length_eq_zero (by omega)
    subst this
    cases hx
  | succ f ih =>
    intro ord left h1 h2 h3
    rcases idxF_cases (freeN beh left) left with ⟨e1, _, e3⟩ | ⟨k, hk, e1, _, e3, _⟩
    · have e5 : placeN beh (f + 1) ord left = (ord, left) := by rw [placeN, e1]
      rw [e5]
      exact ⟨h1, List.Perm.refl _, fun _ x hx => e3 x hx⟩
    · have e5 : placeN beh (f + 1) ord left = placeN beh f (ord ++ [left.getD k []]) (left.eraseIdx k) := by rw [placeN, e1]
      rw [e5]
      have hg : left.getD k [] = left[k] := by rw [List.getD, List.getElem?_eq_getElem hk]; rfl
      rw [hg]
      have hperm : (left[k] :: left.eraseIdx k).Perm left := eraseIdx_cons_perm left k hk
      have hnd := (hperm.nodup_iff).2 h2
      have hsub : ∀ x ∈ left.eraseIdx k, x ∈ left := fun x hx => hperm.mem_iff.1 (List.mem_cons_of_mem _ hx)
      have hpl : Placed beh (ord ++ [left[k]]) (left.eraseIdx k) := by
        intro a n b e x hx hm
        rcases List.eq_nil_or_concat b with rfl | ⟨b', y, e9⟩
        · have e2 : ord = a ∧ [left[k]] = [n] := List.append_inj' e rfl
          have e3' : left[k] = n := by simpa using e2.2
          subst e3'
          unfold freeN at e3
          simp only [Bool.not_eq_true', List.any_eq_false, decide_eq_true_eq] at e3
          exact e3 x hx (hperm.mem_iff.1 (by simpa using hm))
        · rw [List.concat_eq_append] at e9
          subst e9
          have e2 : ord = a ++ n :: b' ∧ [left[k]] = [y] := List.append_inj' (by rw [e]; simp) rfl
          have e3' : left[k] = y := by simpa using e2.2
          refine h1 a n b' e2.1 x hx ?_
          rcases List.mem_append.1 hm with hm | hm
          · rcases List.mem_cons.1 hm with hm | hm
            · exact List.mem_append_left _ (List.mem_cons.2 (.inl hm))
            · rcases List.mem_append.1 hm with hm | hm
              · exact List.mem_append_left _ (List.mem_cons_of_mem _ hm)
              · have : x = left[k] := by rw [e3']; simpa using hm
                exact List.mem_append_right _ (this ▸ List.getElem_mem hk)
          · exact List.mem_append_right _ (hsub x hm)
      obtain ⟨g1, g2, g3⟩ := ih (ord ++ [left[k]]) (left.eraseIdx k) hpl (List.nodup_cons.1 hnd).2 (fun x hx hm => by
        rcases List.mem_append.1 hx with hx | hx
        · exact h3 x hx (hsub x hm)
        · have : x = left[k] := by simpa using hx
          exact (List.nodup_cons.1 hnd).1 (this ▸ hm))
      refine ⟨g1, g2.trans ?_, fun hl => g3 (by rw [List.length_eraseIdx, if_pos hk]; omega)⟩
      rw [List.append_assoc]
      exact List.Perm.append_left _ hperm
/-- The order of units that can all be placed. -/
def ordU (us : List GU) : List Nm := (placeU us).1
theorem errU_ok {us : List GU} (h : errU us = 0) : us.length ≤ 16 ∧ (namesU us).Nodup ∧ badU us = false ∧ (placeU us).2 = [] := by
  unfold errU at h
  split at h
  · cases h
  · split at h
    · cases h
    · split at h
      · cases h
      · split at h
        · cases h
        · rename_i h1 h2 h3 h4
          exact ⟨by omega, Decidable.not_not.1 h2, by simpa using h3, Decidable.not_not.1 h4⟩
theorem ordU_perm {us : List GU} (h : errU us = 0) : (ordU us).Perm (namesU us) := by
  obtain ⟨_, h2, _, h4⟩ := errU_ok h
  have := (placeN_inv (aheadU us) us.length [] (sortN (namesU us)) (fun a n b e => by simp at e) (sortN_nodup.2 h2) (fun x hx => by cases hx)).2.1
  have h4' : (placeN (aheadU us) us.length [] (sortN (namesU us))).2 = [] := h4
  rw [h4', List.append_nil, List.nil_append] at this
  exact this.trans (sortN_perm _)
inductive LeanR (us : List GU) (some : List Nm) : Nm → Prop
  | base {n : Nm} : n ∈ namesU us → n ∈ some → LeanR us some n
  | step {u : GU} {x : Nm} : u ∈ us → (x ∈ u.re ∨ x ∈ u.pa) → LeanR us some x → LeanR us some u.name
inductive PullR (us : List GU) (some : List Nm) : Nm → Prop
  | base {n : Nm} : n ∈ namesU us → n ∈ some → PullR us some n
  | step {u : GU} {x : Nm} : u ∈ us → x ∈ u.re → PullR us some u.name → PullR us some x
/-- Just these names, in order, each once. -/
structure Just (l : List Nm) (p : Nm → Prop) : Prop where
  order : InOrder l
  once : l.Nodup
  mem : ∀ n, n ∈ l ↔ p n
end Go.Proofs.YtnjabanjgckeoaaGreatDoor
end
