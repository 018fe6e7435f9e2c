/- Units and a graph in memory; has, missing, lacks, apart. -/
import Derived.Test.YtnjabanjgckeoaaG2
namespace Go.Proofs.Ytnjabanjgckeoaa
open Go.RowKit
open Go.ChangeMaps (setBlock)
set_option linter.unusedVariables false
set_option linter.unusedSimpArgs false
set_option maxRecDepth 100000

/-- A unit's value. -/
structure UV where
  name : Nm
  v1 : Value
  v2 : Value
  v3 : Value
  v4 : Value
  v5 : Value
  v6 : Value
  ret : Int
def UV.cells (x : UV) : List Value := [.string (toB x.name), x.v1, x.v2, x.v3, x.v4, x.v5, x.v6, .int .i64 x.ret]
def UV.val (x : UV) : Value := .agg x.cells.toArray
def UV.zero : UV := ⟨[], .slice none 0 0, .slice none 0 0, .slice none 0 0, .slice none 0 0, .slice none 0 0, .slice none 0 0, 0⟩
theorem UV.cells_len (x : UV) : x.cells.length = 8 := rfl
structure UVIs (w : World) (x : UV) (u : GU) : Prop where
  name : x.name = u.name
  ret : x.ret = u.ret
  s1 : Sts w x.v1 u.fi
  s2 : Sts w x.v2 u.af
  s3 : Sts w x.v3 u.be
  s4 : Sts w x.v4 u.re
  s5 : Sts w x.v5 u.wa
  s6 : Sts w x.v6 u.pa
theorem Sts.one {w : World} {v : Value} {ls : List Nm} (h : Sts w v ls) : v.oneCell' = true := by
  obtain ⟨a, c, rfl, _⟩ := h
  rfl
theorem UVIs.one {w : World} {x : UV} {u : GU} (h : UVIs w x u) : ∀ v ∈ x.cells, v.oneCell' = true := by
  intro v hv
  simp only [UV.cells, List.mem_cons, List.not_mem_nil, or_false] at hv
  rcases hv with rfl | rfl | rfl | rfl | rfl | rfl | rfl | rfl
  · rfl
  · exact h.s1.one
  · exact h.s2.one
  · exact h.s3.one
  · exact h.s4.one
  · exact h.s5.one
  · exact h.s6.one
  · rfl
theorem info_uv : (Try.prog.info? 44).map (·.size) = some 8 := by kernel_rfl
theorem UVIs.later {w w' : World} {x : UV} {u : GU} (h : UVIs w x u) (hb : Below w.heap.size w w') : UVIs w' x u :=
  ⟨h.name, h.ret, h.s1.later hb, h.s2.later hb, h.s3.later hb, h.s4.later hb, h.s5.later hb, h.s6.later hb⟩
theorem sts_nil (w : World) : Sts w (.slice none 0 0) [] := ⟨none, 0, rfl, Nat.le_refl _, Nat.zero_le _, fun h => absurd h (Nat.lt_irrefl _)⟩
theorem UVIs.zero (w : World) : UVIs w UV.zero GU.zero := ⟨rfl, rfl, sts_nil w, sts_nil w, sts_nil w, sts_nil w, sts_nil w, sts_nil w⟩

abbrev keyN (n : Nm) : Value := .string (toB n)
theorem kindsN {kt : TypeId} {P : Program} (h : P.underlying kt = some .string) : Kinds P kt keyN := by
  have k := kinds_string h
  obtain ⟨d, h1, h2, h3⟩ := k.now
  exact ⟨⟨d, h1, fun a => h2 _, fun a b hab => h3 _ _ fun e => hab (toB_inj e)⟩, fun e a w => k.check e _ w, fun a => k.stays _⟩
/-- Units as a map's entries. -/
def entsU (xs : List UV) : List (Nm × Value) := xs.map fun x => (x.name, x.val)
inductive Units (w : World) : List UV → List GU → Prop
  | nil : Units w [] []
  | cons {x : UV} {u : GU} {xs : List UV} {us : List GU} : UVIs w x u → Units w xs us → Units w (x :: xs) (u :: us)
theorem Units.later {w w' : World} {xs : List UV} {us : List GU} (h : Units w xs us) (hb : Below w.heap.size w w') : Units w' xs us := by
  induction h with
  | nil => exact .nil
  | cons h1 _ ih => exact .cons (h1.later hb) ih
theorem Units.names {w : World} {xs : List UV} {us : List GU} (h : Units w xs us) : xs.map (·.name) = namesU us := by
  induction h with
  | nil => rfl
  | cons h1 _ ih => simp [namesU, h1.name] at ih ⊢; exact ih
/-- What is told of a name. -/
theorem Units.looks {w : World} {xs : List UV} {us : List GU} (h : Units w xs us) (n : Nm) : (n ∈ namesU us → ∃ x, look (entsU xs) n = some x.val ∧ x.name = n ∧ UVIs w x (findU us n)) ∧ (n ∉ namesU us → look (entsU xs) n = none) := by
  induction h with
  | nil => exact ⟨fun hn => by simp [namesU] at hn, fun _ => rfl⟩
  | @cons x u xs us h1 h2 ih =>
    by_cases hx : x.name = n
    · have hu : u.name = n := h1.name ▸ hx
      refine ⟨fun _ => ⟨x, ?_, hx, ?_⟩, fun hn => absurd (by rw [← hu]; simp [namesU]) hn⟩
      · unfold look entsU; simp [hx]
      · unfold findU; rw [List.find?_cons, decide_eq_true hu]; exact h1
    · have hu : ¬ u.name = n := fun e => hx (h1.name.trans e)
      have e1 : look (entsU (x :: xs)) n = look (entsU xs) n := by unfold entsU; rw [List.map_cons]; conv => lhs; unfold look; rw [if_neg hx]
      have e2 : findU (u :: us) n = findU us n := by unfold findU; rw [List.find?_cons, decide_eq_false hu]
      rw [e1, e2]
      refine ⟨fun hn => ih.1 ?_, fun hn => ih.2 ?_⟩
      · rcases List.mem_cons.1 hn with e | h
        · exact absurd e.symm hu
        · exact h
      · exact fun h => hn (List.mem_cons_of_mem _ h)
/-- The units' map of a graph. -/
structure UsAt (w : World) (g bu : Nat) (xs : List UV) (us : List GU) : Prop where
  cell : w.cell? ⟨g, 0, none⟩ = some (.map (some bu))
  map : ∃ o, w.heap[bu]? = some o ∧ MapO keyN o (entsU xs)
  units : Units w xs us
theorem UsAt.later {w w' : World} {g bu : Nat} {xs : List UV} {us : List GU} (h : UsAt w g bu xs us) (hb : Below w.heap.size w w') : UsAt w' g bu xs us := by
  obtain ⟨o, h1, h2⟩ := h.map
  have hg : g < w.heap.size := World.block_lt_of_cell? w ⟨g, 0, none⟩ h.cell
  exact ⟨(hb.cell (p := ⟨g, 0, none⟩) hg).trans h.cell, ⟨o, (hb.block _ (lt_of_heap h1)).trans h1, h2⟩, h.units.later hb⟩
theorem und_us : Try.prog.underlying 46 = some (.map 9 44) := by kernel_rfl
theorem und_str : Try.prog.underlying 9 = some .string := by kernel_rfl
theorem zero_unit (w : World) : (zeroValue 44).run Try.prog w = .ok UV.zero.val w := by
  rw [Try.zeroValue44]; rfl
theorem UsAt.lookup {w : World} {g bu : Nat} {xs : List UV} {us : List GU} (h : UsAt w g bu xs us) (n : Nm) : ∃ x, UVIs w x (findU us n) ∧ ∀ w2, Below w.heap.size w w2 → ∀ c, (Instr.lookup 46 (.map (some bu)) (.string (toB n)) c).run Try.prog w2 = .ok (if c then .tuple #[x.val, .bool (decide (n ∈ namesU us))] else x.val) w2 := by
  obtain ⟨o, h1, h2⟩ := h.map
  have hl := fun w2 (hb : Below w.heap.size w w2) c => h2.lookup (P := Try.prog) (kindsN und_str) und_us (zero_unit w2) ((hb.block _ (lt_of_heap h1)).trans h1) n c
  by_cases hn : n ∈ namesU us
  · obtain ⟨x, e1, _, e3⟩ := (h.units.looks n).1 hn
    refine ⟨x, e3, fun w2 hb c => ?_⟩
    rw [hl w2 hb c, e1, decide_eq_true hn]; rfl
  · have e1 := (h.units.looks n).2 hn
    refine ⟨UV.zero, by rw [findU_none hn]; exact UVIs.zero w, fun w2 hb c => ?_⟩
    rw [hl w2 hb c, e1, decide_eq_false hn]; rfl
set_option maxHeartbeats 1000000 in
theorem has_any {w : World} {g bu : Nat} {xs : List UV} {us : List GU} (h : UsAt w g bu xs us) (n : Nm) :
    Calls Try.prog 17 #[.pointer (some ⟨g, 0, none⟩), .string (toB n)] w fun e w' => e = .returned (.bool (decide (n ∈ namesU us))) ∧ Below w.heap.size w w' := by
  obtain ⟨x, hx, hl0⟩ := h.lookup n
  have hl := hl0 w (Below.refl _ _) true
  clear hl0
  have hc := h.cell
  simp only [if_true] at hl
  have hone := Lib.hid hx.one
  have hcs : (Try.prog.info? 44).map (·.size) = some x.cells.length := info_uv
  clear h hx
  unfold UV.val at hl
  generalize decide (n ∈ namesU us) = b at *
  generalize toB n = nb at *
  have h8 := Lib.hid (show (8 : Nat) = x.cells.length from rfl)
  generalize x.cells = cs at *
  go_enter Try.func17, Try.ntmps17
  go_wp2_with (refine wpList_store_new rfl 44 (.tmp 5) (.tmp 14) rfl (Own.start w) cs w.heap.size rfl rfl rfl h8.out hcs hone.out ?_)
  intro w' HO _
  have HB := Lib.hid HO.below
  clear HO
  go_wp2_with fail
  go_ret
  exact ⟨rfl, HB.out⟩
theorem missing_any {w : World} {g bu bx : Nat} {xs : List UV} {us : List GU} (h : UsAt w g bu xs us) (hx : w.cell? ⟨bx, 0, none⟩ = some (.pointer (some ⟨g, 0, none⟩))) (n : Nm) :
    Calls Try.prog 40 #[.string (toB n), .pointer (some ⟨bx, 0, none⟩)] w fun e w' => e = .returned (.bool (!decide (n ∈ namesU us))) ∧ Below w.heap.size w w' := by
  have hh := has_any h n
  clear h
  generalize decide (n ∈ namesU us) = b at *
  go_enter Try.func40, Try.ntmps40
  go_wp2_with (go_at_call 17; refine hh.mono ?_; rintro e w' ⟨rfl, hb⟩)
  go_ret
  exact ⟨rfl, hb⟩
end Go.Proofs.Ytnjabanjgckeoaa
