/- Packages as plain data, and how they lie in memory; whether a need asks for versions as it may. -/
import Derived.Test.YtihnjhigemhknaaGreatDoorVe5
import Derived.Test.YtihnjhigemhknaaGreatDoorPRef
namespace Go.Proofs.YtihnjhigemhknaaGreatDoor
open Go.RowKit
set_option linter.unusedVariables false
set_option linter.unusedSimpArgs false
set_option maxRecDepth 100000

structure NeedD where
  name : ByteArray
  way : Int
  ver : ByteArray
def NeedD.cells (n : NeedD) : List Value := [.string n.name, .int .i64 n.way, .string n.ver]
structure FileD where
  path : ByteArray
  config : Bool
  a : Option Addr
  c : Nat
  data : List Int
def FileD.cells (f : FileD) : List Value := [.string f.path, .bool f.config, .slice f.a f.data.length f.c]
structure PkgD where
  name : ByteArray
  ver : ByteArray
  needs : List NeedD
  confs : List ByteArray
  files : List FileD
  units : List ByteArray
/-- Elements of so many cells each, one behind the other. -/
def SlcA (w : World) (a : Option Addr) (size : Nat) (xs : List (List Value)) : Prop := ∀ i (h : i < xs.length), ∃ g o, a = some ⟨g, o, none⟩ ∧ w.rangeAt g (o + i * size) xs[i]
theorem range_laterA {w w' : World} (hb : Below w.heap.size w w') {g off : Nat} {cs : List Value} (hr : w.rangeAt g off cs) : w'.rangeAt g off cs := fun j v hj => by
  have h1 := hr j v hj
  rw [hb.cell (p := ⟨g, off + j, none⟩) (World.block_lt_of_cell? w _ h1)]
  exact h1
theorem SlcA.later {w w' : World} {a : Option Addr} {size : Nat} {xs : List (List Value)} (h : SlcA w a size xs) (hb : Below w.heap.size w w') : SlcA w' a size xs := fun i hi => by
  obtain ⟨g, o, e, hr⟩ := h i hi
  exact ⟨g, o, e, range_laterA hb hr⟩
/-- A need's ways, and a need. -/
def wayOk (n : NeedD) : Bool := if n.way = 0 then decide (n.ver.data.toList = []) else (decide (n.way = 1 ∨ n.way = 2 ∨ n.way = 3) && rightV n.ver.data.toList)
def needOk (n : NeedD) : Bool := nameL n.name.data.toList && wayOk n
theorem empty_is (s : ByteArray) : (s.toList == []) = decide (s.data.toList = []) := by
  rw [Lib.toList_data, Bool.eq_iff_iff]; simp
theorem wayOk_zero {n : NeedD} (h : n.way = 0) : wayOk n = decide (n.ver.data.toList = []) := by unfold wayOk; rw [if_pos h]
theorem wayOk_ver {n : NeedD} (h : n.way = 1 ∨ n.way = 2 ∨ n.way = 3) : wayOk n = rightV n.ver.data.toList := by
  unfold wayOk; rw [if_neg (by omega), decide_eq_true h, Bool.true_and]
theorem wayOk_no {n : NeedD} (h0 : n.way ≠ 0) (h : ¬ (n.way = 1 ∨ n.way = 2 ∨ n.way = 3)) : wayOk n = false := by
  unfold wayOk; rw [if_neg h0, decide_eq_false h, Bool.false_and]
theorem Own.box3 {W0 : Base} {w : World} {L : List Rw} (h : Own W0 w L) (x y z : Value) (T : TypeId) : Own W0 (w.alloc (.cells #[x, y, z] T)) (⟨T, 3, .slice (some ⟨w.heap.size, 0, none⟩) 1 1, 1, [x, y, z]⟩ :: L) :=
  h.made T 3 #[x, y, z] 1 rfl (by unfold maxLen; decide)
set_option maxHeartbeats 2000000 in
theorem way_any (n : NeedD) (w : World) (hs : n.ver.size ≤ 1000000) (hm : VMx w) : Calls Tryz.prog 22 #[.agg #[.string n.name, .int .i64 n.way, .string n.ver]] w fun e w' => e = .returned (.bool (wayOk n)) ∧ Below w.heap.size w w' := by
  have hV := fun w1 (h : VMx w1) => vright_any n.ver w1 hs h
  have hE := empty_is n.ver
  have Hm := Lib.hid hm
  clear hm
  have hb0 : Below w.heap.size w (w.alloc (Obj.cells #[Value.string n.name, .int .i64 n.way, .string n.ver] 53)) := (Below.refl _ w).alloc (Nat.le_refl _) _
  have HB0 := Lib.hid hb0
  clear hb0
  obtain ⟨W, hW⟩ : ∃ W, wayOk n = W := ⟨_, rfl⟩
  have HW0 := Lib.hid (fun h => wayOk_zero (n := n) h)
  have HWv := Lib.hid (fun h => wayOk_ver (n := n) h)
  have HWn := Lib.hid (fun h k => wayOk_no (n := n) h k)
  rw [hW] at HW0 HWv HWn
  simp only [hW]
  clear hW
  obtain ⟨nm, κ, vr⟩ := n
  dsimp only at *
  obtain ⟨q, hq⟩ : ∃ q, decide (vr.data.toList = []) = q := ⟨_, rfl⟩
  obtain ⟨r, hr⟩ : ∃ r, rightV vr.data.toList = r := ⟨_, rfl⟩
  rw [hq] at hE HW0
  rw [hr] at hV HWv
  clear hq hr
  by_cases h0 : κ = 0
  · obtain rfl := HW0.out h0
    subst h0
    clear HWv HWn HW0
    go_enter Tryz.func22, Tryz.ntmps22
    go_wp2_with fail
    go_ret
    exact ⟨rfl, HB0.out⟩
  · have g0 : (κ == 0) = false := by simpa using h0
    by_cases h1 : κ = 1 ∨ κ = 2 ∨ κ = 3
    · obtain rfl := HWv.out h1
      clear HWv HWn HW0 h0
      rcases h1 with rfl | rfl | rfl
      all_goals
        go_enter Tryz.func22, Tryz.ntmps22
        go_wp2_with fail
        refine (hV _ (Hm.out.later HB0.out)).mono ?_
        rintro e w2 ⟨rfl, hb2⟩
        have HB2 := Lib.hid (HB0.out.trans (hb2.mono HB0.out.size))
        clear hb2 hV
        go_wp2_with fail
        go_ret
        exact ⟨rfl, HB2.out⟩
    · obtain rfl := HWn.out h0 h1
      have g1 : (κ == 1) = false := by simpa using fun e => h1 (.inl e)
      have g2 : (κ == 2) = false := by simpa using fun e => h1 (.inr (.inl e))
      have g3 : (κ == 3) = false := by simpa using fun e => h1 (.inr (.inr e))
      clear HWv HWn HW0 h0 h1
      go_enter Tryz.func22, Tryz.ntmps22
      go_wp2_with fail
      go_ret
      exact ⟨rfl, HB0.out⟩

set_option maxHeartbeats 2000000 in
theorem wneed_any (n : NeedD) (w : World) (hn : n.name.size ≤ 1000000) (hs : n.ver.size ≤ 1000000) (hm : VMx w) : Calls Tryz.prog 21 #[.agg #[.string n.name, .int .i64 n.way, .string n.ver]] w fun e w' => e = .returned (.bool (!needOk n)) ∧ Below w.heap.size w w' := by
  have hN := fun w1 => name_any n.name w1 (by unfold maxLen; omega)
  have hW := fun w1 (h : VMx w1) => way_any n w1 hs h
  have Hm := Lib.hid hm
  have HB0 := Lib.hid (show Below w.heap.size w (w.alloc (Obj.cells #[Value.string n.name, .int .i64 n.way, .string n.ver] 53)) from (Below.refl _ w).alloc (Nat.le_refl _) _)
  have HO := Lib.hid ((Own.start w).box3 (.string n.name) (.int .i64 n.way) (.string n.ver) 53)
  have HQ := Lib.hid (show needOk n = (nameL n.name.data.toList && wayOk n) from rfl)
  clear hm
  obtain ⟨Q, hQ⟩ : ∃ Q, needOk n = Q := ⟨_, rfl⟩
  rw [hQ] at HQ ⊢
  clear hQ
  generalize wayOk n = b at *
  generalize nameL n.name.data.toList = a at *
  obtain ⟨nm, κ, vr⟩ := n
  dsimp only at *
  cases a with
  | false =>
    obtain rfl : Q = false := HQ.out
    go_enter Tryz.func21, Tryz.ntmps21
    go_wp2_with fail
    refine (hN _).mono ?_
    rintro e w2 ⟨rfl, hb2⟩
    have HB2 := Lib.hid (HB0.out.trans (hb2.mono HB0.out.size))
    clear hb2 hN hW
    go_wp2_with fail
    go_ret
    exact ⟨rfl, HB2.out⟩
  | true =>
    obtain rfl : Q = b := HQ.out
    go_enter Tryz.func21, Tryz.ntmps21
    go_wp2_with fail
    refine (hN _).mono ?_
    rintro e w2 ⟨rfl, hb2⟩
    have HB2 := Lib.hid (HB0.out.trans (hb2.mono HB0.out.size))
    have HO2 := Lib.hid (HO.out.later hb2)
    have q0 : w2.cell? ⟨w.heap.size, 0, none⟩ = some (.string nm) := Own.cell (h := HO2.out) 0 (by decide)
    have q1 : w2.cell? ⟨w.heap.size, 1, none⟩ = some (.int .i64 κ) := Own.cell (h := HO2.out) 1 (by decide)
    have q2 : w2.cell? ⟨w.heap.size, 2, none⟩ = some (.string vr) := Own.cell (h := HO2.out) 2 (by decide)
    clear hb2 hN
    go_wp2_with fail
    refine (hW _ (Hm.out.later HB2.out)).mono ?_
    rintro e w3 ⟨rfl, hb3⟩
    have HB3 := Lib.hid (HB2.out.trans (hb3.mono HB2.out.size))
    clear hb3 hW q0 q1 q2
    go_wp2_with fail
    go_ret
    exact ⟨rfl, HB3.out⟩
end Go.Proofs.YtihnjhigemhknaaGreatDoor
