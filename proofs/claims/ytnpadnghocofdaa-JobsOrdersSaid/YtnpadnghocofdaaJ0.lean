/- Get; slices.DeleteFunc over a row of texts of the call's own. -/
import Derived.Test.YtnpadnghocofdaaG21
namespace Go.Proofs.Ytnpadnghocofdaa
open Go.RowKit
open Go.ChangeMaps (setBlock)
set_option linter.unusedVariables false
set_option linter.unusedSimpArgs false
set_option maxRecDepth 100000

theorem ret_cell_tmpG {P : Program} {fn : Func} {p u : Tmp} {ty : TypeId} (h : fn.results = #[.cell p ty, .tmp u]) {tmps : Array Value} {w : World} {b : Nat} {cs : List Value} {v : Value} {d : TypeDesc} (hp : tmps.getD p undef = .pointer (some ⟨b, 0, none⟩)) (hu : tmps.getD u undef = v)
    (hr : w.rangeAt b 0 cs) (ht : P.underlying ty = some d) (hd : d.isRow = true) (hi : (P.info? ty).map (·.size) = some cs.length) : (results fn tmps).run P w = .ok (.tuple #[.agg cs.toArray, v]) w := by
  rw [results_cell_tmp h, hp, hu]
  have e : (asAddr (.pointer (some ⟨b, 0, none⟩))).run P w = .ok ⟨b, 0, none⟩ w := rfl
  rw [e]
  simp only [Result.andThen_ok, run_loadVar_mid w b 0 ty cs d hr ht hd hi]
set_option maxHeartbeats 2000000 in
theorem GAt.get {w : World} {g : Nat} {us : List GU} {ord : List Nm} (h : GAt w g us ord) (n : Nm) :
    Calls Try.prog 30 #[.pointer (some ⟨g, 0, none⟩), .string (toB n)] w fun e w' => ∃ cs : List Value, cs.length = 8 ∧ (∀ v ∈ cs, Value.oneCell' v = true) ∧ e = .returned (.tuple #[.agg cs.toArray, .bool (decide (n ∈ namesU us))]) ∧ Below w.heap.size w w' := by
  obtain ⟨bu, xs, hU⟩ := h.uni
  have hB0 : Below w.heap.size w (w.alloc (.cells #[.string ⟨#[]⟩, .slice none 0 0, .slice none 0 0, .slice none 0 0, .slice none 0 0, .slice none 0 0, .slice none 0 0, .int .i64 0] 34)) := (Below.refl _ w).alloc (Nat.le_refl _) _
  obtain ⟨x, hx, hl0⟩ := hU.lookup n
  have hl := hl0 _ hB0 true
  simp only [if_true] at hl
  have hc := (hU.later hB0).cell
  have hbnd : Bnd (findU us n) := by
    by_cases hn : n ∈ namesU us
    · exact h.bnd _ (findU_of h.once hn).1
    · rw [findU_none hn]; exact ⟨Nat.zero_le _, Nat.zero_le _, Nat.zero_le _, Nat.zero_le _, Nat.zero_le _, Nat.zero_le _⟩
  have O0 := (Own.start w).made_at 34 8 #[.string ⟨#[]⟩, .slice none 0 0, .slice none 0 0, .slice none 0 0, .slice none 0 0, .slice none 0 0, .slice none 0 0, .int .i64 0] 1 w.heap.size rfl rfl (by unfold maxLen; decide)
  have HO0 := Lib.hid O0
  have hone := Lib.hid hx.one
  have hcs : (Try.prog.info? 34).map (·.size) = some x.cells.length := info_uv
  have HX := Lib.hid hx
  have h8 := Lib.hid (show (8 : Nat) = x.cells.length from rfl)
  have KA := Lib.hid (fun W (hb : Below w.heap.size w W) => (show Calls Try.prog 32 #[.agg x.cells.toArray] W _ from apart_any W x (findU us n) (hx.later hb) hbnd))
  clear hl0 h hU hx hB0 hbnd O0
  unfold UV.val at hl
  generalize toB n = nb at *
  generalize decide (n ∈ namesU us) = b at *
  generalize x.cells = cs at *
  go_enter Try.func30, Try.ntmps30
  go_upto_region 2 with (refine wpList_store_new rfl 34 (.tmp 6) (.tmp 15) rfl HO0.out cs (w.heap.size + 1) (by simp) rfl rfl h8.out hcs hone.out ?_)
  intro w1 hO1 _
  have hr1 : w1.rangeAt (w.heap.size + 1) 0 cs := by
    have := hO1.range 0 cs.length
    rw [List.drop_zero, List.take_length] at this
    exact this
  have ka := KA.out w1 hO1.below
  have HO1 := Lib.hid hO1
  clear hO1 hl hc
  go_wp2_with (first
    | (refine wpList_load_mid rfl 34 (.tmp 6) rfl (w.heap.size + 1) 0 rfl cs _ hr1 Try.underlying34 rfl hcs ?_)
    | (go_at_call 32; refine ka.mono ?_; rintro e w2 ⟨y, rfl, _, _, hO2⟩; have HO2 := Lib.hid (HO1.out.join hO2); have Hy := Lib.hid ((show Units w2 [y] [findU us n] from Like.units hO2 (.cons ‹_› ‹_› .nil) (fun r hr => by simpa [rowsAll] using hr))); clear hO2)
    | (refine wpList_store_mid rfl 34 (.tmp 4) (.tmp 18) rfl w.heap.size 0 y.cells.toArray rfl rfl (by
        have h9 : Own w w2 (⟨34, 8, .slice (some ⟨w.heap.size, 0, none⟩) 1 1, 1, UV.zero.cells⟩ :: (rows6 y (findU us n) ++ [⟨34, cs.length, .slice (some ⟨w.heap.size + 1, 0, none⟩) 1 1, 1, cs⟩])) := HO2.out.perm (by
          have e1 : (rows6 y (findU us n) ++ [⟨34, cs.length, .slice (some ⟨w.heap.size + 1, 0, none⟩) 1 1, 1, cs⟩, ⟨34, 8, .slice (some ⟨w.heap.size, 0, none⟩) 1 1, 1, UV.zero.cells⟩]) = (rows6 y (findU us n) ++ [⟨34, cs.length, .slice (some ⟨w.heap.size + 1, 0, none⟩) 1 1, 1, cs⟩]) ++ [⟨34, 8, .slice (some ⟨w.heap.size, 0, none⟩) 1 1, 1, UV.zero.cells⟩] := by simp
          refine (List.Perm.of_eq e1).trans ?_
          exact List.perm_append_comm)
        exact h9.there 0 8 (by decide)) info_uv (by
        cases Hy.out with
        | cons h1 _ => exact all_oneCell_toArray h1.one) ?_))
  have hO3 : Own w w2 (⟨34, 8, .slice (some ⟨w.heap.size, 0, none⟩) 1 1, 1, UV.zero.cells⟩ :: (rows6 y (findU us n) ++ [⟨34, cs.length, .slice (some ⟨w.heap.size + 1, 0, none⟩) 1 1, 1, cs⟩])) := HO2.out.perm (by
    have e1 : (rows6 y (findU us n) ++ [⟨34, cs.length, .slice (some ⟨w.heap.size + 1, 0, none⟩) 1 1, 1, cs⟩, ⟨34, 8, .slice (some ⟨w.heap.size, 0, none⟩) 1 1, 1, UV.zero.cells⟩]) = (rows6 y (findU us n) ++ [⟨34, cs.length, .slice (some ⟨w.heap.size + 1, 0, none⟩) 1 1, 1, cs⟩]) ++ [⟨34, 8, .slice (some ⟨w.heap.size, 0, none⟩) 1 1, 1, UV.zero.cells⟩] := by simp
    exact (List.Perm.of_eq e1).trans List.perm_append_comm)
  have h9 := hO3.setCells y.cells 0
  rw [splice_all' UV.zero.cells y.cells rfl] at h9
  have hr9 : (w2.setCells w.heap.size 0 y.cells).rangeAt w.heap.size 0 y.cells := h9.range 0 8
  have h1y : UVIs w2 y (findU us n) := by
    cases Hy.out with
    | cons h1 _ => exact h1
  refine bodyPost_ret (v := .tuple #[.agg y.cells.toArray, .bool b]) (ret_cell_tmpG Try.results30 rfl rfl hr9 Try.underlying34 rfl info_uv) rfl ?_
  exact ⟨y.cells, rfl, h1y.one, rfl, h9.below⟩
end Go.Proofs.Ytnpadnghocofdaa
