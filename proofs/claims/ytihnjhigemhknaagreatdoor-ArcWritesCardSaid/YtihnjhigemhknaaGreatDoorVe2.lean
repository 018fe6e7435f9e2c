/- 'parse' of package ver: what a text says as a version. -/
import Derived.Test.YtihnjhigemhknaaGreatDoorVe1
import Derived.Deep.LoopGhost
namespace Go.Proofs.YtihnjhigemhknaaGreatDoor
open Go.RowKit
set_option linter.unusedVariables false
set_option linter.unusedSimpArgs false
set_option maxRecDepth 100000

theorem ret_cellV {P : Program} {fn : Func} {p : Tmp} {ty : TypeId} (h : fn.results = #[.cell p ty]) {tmps : Array Value} {w : World} {b : Nat} {cs : List Value} {d : TypeDesc} (hp : tmps.getD p undef = .pointer (some ⟨b, 0, none⟩))
    (hr : w.rangeAt b 0 cs) (ht : P.underlying ty = some d) (hd : d.isRow = true) (hi : (P.info? ty).map (·.size) = some cs.length) : (results fn tmps).run P w = .ok (.agg cs.toArray) w := by
  have e : (asAddr (.pointer (some ⟨b, 0, none⟩))).run P w = .ok ⟨b, 0, none⟩ w := rfl
  have hp' : tmps[p]?.getD undef = .pointer (some ⟨b, 0, none⟩) := by simpa using hp
  simp only [results, h]
  simp [Sem.run_bind, Result.andThen, hp', e, run_loadVar_mid w b 0 ty cs d hr ht hd hi]

/-- A row of numbers; a version in a box. -/
def rowN (v : Value) (ns : List Nat) : Rw := ⟨3, 1, v, ns.length, ns.map fun (n : Nat) => Value.int .i64 (n : Int)⟩
def rowVer (g : Nat) (v : Value) (r : Int) : Rw := ⟨84, 2, .slice (some ⟨g, 0, none⟩) 1 1, 1, [v, .int .i64 r]⟩
theorem info_ver : (Tryz.prog.info? 84).map (·.size) = some 2 := by kernel_rfl
theorem int_info : ∃ i, Tryz.prog.info? 3 = some i ∧ i.zero = some (.int .i64 0) ∧ i.size = 1 ∧ i.bytes = 8 := by
  have h : (Tryz.prog.info? 3).map (fun i => (i.zero, i.size, i.bytes)) = some (some (.int .i64 0), 1, 8) := by kernel_rfl
  cases hi : Tryz.prog.info? 3 with
  | none => rw [hi] at h; cases h
  | some i =>
    rw [hi] at h
    injection h with h
    injection h with h1 h2
    injection h2 with h2 h3
    exact ⟨i, rfl, h1, h2, h3⟩
theorem Own.ver {W0 : Base} {w : World} {L : List Rw} (h : Own W0 w L) (v : Value) (r : Int) : Own W0 (w.alloc (.cells #[v, .int .i64 r] 84)) (rowVer w.heap.size v r :: L) :=
  h.made 84 2 #[v, .int .i64 r] 1 rfl (by unfold maxLen; decide)
theorem ver_cells {W0 : Base} {w : World} {g : Nat} {v : Value} {r : Int} {L : List Rw} (h : Own W0 w L) (hm : rowVer g v r ∈ L) : w.cell? ⟨g, 0, none⟩ = some v ∧ w.cell? ⟨g, 1, none⟩ = some (.int .i64 r) ∧ w.frozen? ⟨g, 0, none⟩ = false ∧ w.frozen? ⟨g, 1, none⟩ = false ∧ w.rangeAt g 0 [v, .int .i64 r] := by
  have h1 := h.only hm
  refine ⟨Own.cell (h := h1) 0 (by decide), Own.cell (h := h1) 1 (by decide), Own.free (h := h1) 0, Own.free (h := h1) 1, ?_⟩
  have := Own.range (h := h1) 0 2
  exact this
theorem Own.setVer0 {W0 : Base} {w : World} {g : Nat} {v v' : Value} {r : Int} {L : List Rw} (h : Own W0 w (rowVer g v r :: L)) : Own W0 (w.setCell ⟨g, 0, none⟩ v') (rowVer g v' r :: L) := Own.set (h := h) 0 v'
theorem Own.setVer1 {W0 : Base} {w : World} {g : Nat} {v : Value} {r r' : Int} {L : List Rw} (h : Own W0 w (rowVer g v r :: L)) : Own W0 (w.setCell ⟨g, 1, none⟩ (.int .i64 r')) (rowVer g v r' :: L) := Own.set (h := h) 1 (.int .i64 r')
theorem Own.setVer {W0 : Base} {w : World} {g : Nat} {v v' : Value} {r r' : Int} {L : List Rw} (h : Own W0 w (rowVer g v r :: L)) : Own W0 (w.setCells g 0 [v', .int .i64 r']) (rowVer g v' r' :: L) := Own.setCells (h := h) [v', .int .i64 r'] 0

/-- The library's own bound of bytes: whatever number. -/
def VMx (w : World) : Prop := 0 < w.heap.size ∧ ∃ m : Int, w.cell? ⟨0, 0, none⟩ = some (.int .i64 m)
theorem VMx.later {w w' : World} (h : VMx w) (hb : Below w.heap.size w w') : VMx w' := by
  obtain ⟨h1, m, h2⟩ := h
  exact ⟨Nat.lt_of_lt_of_le h1 hb.size, m, by rw [hb.cell (p := ⟨0, 0, none⟩) h1]; exact h2⟩
theorem VMx.own {W0 : Base} {w : World} {L : List Rw} (h : VMx W0.world) (hO : Own W0 w L) : VMx w := h.later hO.below
/-- The pieces that SplitN cuts. -/
def cutP (l : List UInt8) : List (List UInt8) := Lib.splitK [46] 0 (min 4 (l.length + 1) - 1) l
theorem cutP_yes (l : List UInt8) (h : (bits 46 l).length ≤ 4) : cutP l = bits 46 l := by
  have := bits_length 46 l
  exact splitK_bits 46 _ l (by omega)
theorem cutP_no (l : List UInt8) (h : ¬ (bits 46 l).length ≤ 4) : (cutP l).all numL = false := by
  have hl := bits_length 46 l
  obtain ⟨p, hp, hd⟩ := splitK_rest 46 (min 4 (l.length + 1) - 1) l (by omega)
  rw [List.all_eq_false]
  exact ⟨p, hp, by rw [numL_no hd (by decide)]; decide⟩
theorem cutP_length (l : List UInt8) : (cutP l).length ≤ 4 := by
  have h := Lib.splitB_length_le (toB [46]) 0 (min 4 (l.length + 1) - 1) (toB l)
  have h2 := congrArg List.length (Lib.splitB_data (toB [46]) 0 (min 4 (l.length + 1) - 1) (toB l))
  rw [List.length_map] at h2
  have h3 : (Lib.splitK (toB [46]).data.toList 0 (min 4 (l.length + 1) - 1) (toB l).data.toList) = cutP l := rfl
  rw [h3] at h2
  omega
theorem cutP_all (l : List UInt8) : (cutP l).all numL = (decide ((bits 46 l).length ≤ 4) && (bits 46 l).all numL) := by
  by_cases h : (bits 46 l).length ≤ 4
  · rw [cutP_yes l h, decide_eq_true h, Bool.true_and]
  · rw [cutP_no l h, decide_eq_false h, Bool.false_and]
theorem cutP_le (l : List UInt8) : ∀ p ∈ cutP l, p.length ≤ l.length := by
  have main : ∀ (k : Nat) (l : List UInt8), ∀ p ∈ Lib.splitK [46] 0 k l, p.length ≤ l.length := by
    intro k
    induction k with
    | zero => intro l p hp; rw [List.mem_singleton.1 hp]; exact Nat.le_refl _
    | succ k ih =>
      intro l p hp
      unfold Lib.splitK at hp
      split at hp
      · rw [List.mem_singleton.1 hp]; exact Nat.le_refl _
      · rcases List.mem_cons.1 hp with rfl | hp
        · rw [List.length_take]; omega
        · have := ih _ p hp
          rw [List.length_drop] at this; omega
  exact main _ l
/-- strings.SplitN at points, four pieces at most: its pieces, in a row. -/
theorem splitN_dot (s : ByteArray) (w : World) (hs : s.size ≤ 1000000) (hm : VMx w) : Calls Tryz.prog 69 #[.string s, .string ⟨#[46]⟩, .int .i64 4] w fun e w' => ∃ n cs, e = .returned (.slice (some ⟨w.heap.size, 0, none⟩) (cutP s.data.toList).length n) ∧ (cutP s.data.toList).length ≤ n ∧ Own w w' [⟨9, 1, .slice (some ⟨w.heap.size, 0, none⟩) n n, n, cs⟩] ∧ ∀ j (hj : j < (cutP s.data.toList).length), cs[j]? = some (.string (toB (cutP s.data.toList)[j])) := by
  obtain ⟨_, m, h2⟩ := hm
  have hsz : (⟨#[46]⟩ : ByteArray).size = 1 := rfl
  have h := Tryz.strings_SplitN s ⟨#[46]⟩ 4 m w (by omega) h2 (by rw [hsz]; exact Nat.le_refl _) (by decide) (by decide)
  refine h.mono ?_
  rintro e w' ⟨rfl, rfl⟩
  have e1 : s.size = s.data.toList.length := Lib.size_eq s
  have h3 : Lib.splitB ⟨#[46]⟩ 0 (min 4 (s.size + 1) - 1) s = (cutP s.data.toList).map toB := by
    have h1 := Lib.splitB_data (toB [46]) 0 (min 4 (s.size + 1) - 1) s
    have h4 : (Lib.splitK (toB [46]).data.toList 0 (min 4 (s.size + 1) - 1) s.data.toList) = cutP s.data.toList := by unfold cutP; rw [e1]
    rw [h4] at h1
    rw [← h1, List.map_map]
    exact (List.map_id' _).symm
  have hle := Lib.splitB_length_le ⟨#[46]⟩ 0 (min 4 (s.size + 1) - 1) s
  have hcs := Lib.cellsOf_size (done := Lib.splitB ⟨#[46]⟩ 0 (min 4 (s.size + 1) - 1) s) (N := min 4 (s.size + 1)) (by omega)
  rw [h3] at hle hcs ⊢
  rw [List.length_map] at hle ⊢
  refine ⟨_, _, rfl, by omega, (Own.start w).made 9 1 _ _ (by rw [hcs, Nat.mul_one]) (by unfold maxLen; omega), fun j hj => ?_⟩
  unfold Lib.cellsOf
  rw [List.getElem?_append_left (by simpa using hj), List.map_map, List.getElem?_map, List.getElem?_eq_getElem hj]
  rfl
theorem number_list (l : List UInt8) (w : World) (hl : l.length ≤ 1000000) : Calls Tryz.prog 68 #[.string (toB l)] w fun e w' => e = .returned (.tuple #[.int .i64 (if numL l then (valN l : Int) else 0), .bool (numL l)]) ∧ Below w.heap.size w w' :=
  number_any (toB l) w (by rw [toB_size]; unfold maxLen; omega)
theorem cut_dash (s : ByteArray) (w : World) (hs : s.size ≤ 1000000) (hm : VMx w) : Calls Tryz.prog 67 #[.string s, .string ⟨#[45]⟩] w fun e w' => e = .returned (.tuple #[.string (toB (frontL s.data.toList)), .string (toB (restL s.data.toList)), .bool (dashL s.data.toList)]) ∧ ∃ n, w' = w.drewN n := by
  obtain ⟨_, m, h2⟩ := hm
  exact Tryz.strings_Cut s ⟨#[45]⟩ m w (by omega) h2
theorem cut_le (l : List UInt8) : (frontL l).length ≤ l.length ∧ (restL l).length ≤ l.length := by
  unfold frontL restL Lib.cut
  split
  · simp only [List.length_take, List.length_drop]; omega
  · simp
theorem all_take_succV {α : Type} (f : α → Bool) (ls : List α) (k : Nat) (h : k < ls.length) : (ls.take (k + 1)).all f = ((ls.take k).all f && f ls[k]) := by
  rw [List.take_succ_eq_append_getElem h, List.all_append, List.all_cons, List.all_nil, Bool.and_true]
theorem all_at_noV {α : Type} (f : α → Bool) (ls : List α) (k : Nat) (h : k < ls.length) (hf : f ls[k] = false) : ls.all f = false := by
  rw [List.all_eq_false]
  exact ⟨ls[k], List.getElem_mem _, by rw [hf]; decide⟩
/-- What 'parse' gives. -/
def ParsePost (w : World) (l : List UInt8) (e : Ending) (w' : World) : Prop := ∃ v, e = .returned (.agg #[v, .int .i64 (revV l : Int)]) ∧ Own w w' [rowN v (numsV l)]
theorem parsePost_no {w w' : World} {l : List UInt8} (h : rightV l = false) (hb : Below w.heap.size w w') : ParsePost w l (.returned (.agg #[.slice none 0 0, .int .i64 0])) w' := by
  have h1 : numsV l = [] := by unfold numsV; rw [h]; rfl
  have h2 : revV l = 0 := by unfold revV; rw [h]; rfl
  exact ⟨_, by rw [h2]; rfl, by rw [h1]; exact (Own.of_below hb).nil 3 1⟩
def LoopV (w : World) (ps : List (List UInt8)) (b0 b1 g : Nat) (r : Int) (n : Nat) (cs : List Value) (i : Value) (wr : World) : Prop :=
  ∃ (k : Nat) (vv : Value), i = .int .i64 k ∧ k ≤ ps.length ∧ (ps.take k).all numL = true ∧ Own w wr [rowVer b1 vv r, rowVer b0 (.slice none 0 0) 0, rowN vv ((ps.take k).map valN), ⟨9, 1, .slice (some ⟨g, 0, none⟩) n n, n, cs⟩]
end Go.Proofs.YtihnjhigemhknaaGreatDoor
