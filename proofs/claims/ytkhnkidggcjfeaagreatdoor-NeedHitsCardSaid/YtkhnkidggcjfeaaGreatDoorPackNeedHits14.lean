/- Texts one behind the other, each in a section of its own: what calls make of memory, step by step. -/
import Derived.Test.YtkhnkidggcjfeaaGreatDoorPackNeedHits13
import Derived.Lib.OwnBridge
import Derived.Deep.QuietTactic
import Derived.BigQuiet
set_option linter.unusedVariables false
set_option linter.unusedSimpArgs false
set_option maxRecDepth 100000
section
namespace Go.Proofs.YtkhnkidggcjfeaaGreatDoor
open Go.RowKit
open Go.ChangeMaps (setBlock)
structure UV where
  name : Nm
  v1 : Value
  v2 : Value
  v3 : Value
  v4 : Value
  v5 : Value
  v6 : Value
  ret : Int
def UV.cells (x : UV) : List Value := [.string (toB x.name), x.v1, x.v2, x.v3, x.v4, x.v5, x.v6, .int .i64 x.ret]
def UV.val (x : UV) : Value := .agg x.cells.toArray
def UV.zero : UV := ⟨[], .slice none 0 0, .slice none 0 0, .slice none 0 0, .slice none 0 0, .slice none 0 0, .slice none 0 0, 0⟩
structure UVIs (w : World) (x : UV) (u : GU) : Prop where
  name : x.name = u.name
  ret : x.ret = u.ret
  s1 : Sts w x.v1 u.fi
  s2 : Sts w x.v2 u.af
  s3 : Sts w x.v3 u.be
  s4 : Sts w x.v4 u.re
  s5 : Sts w x.v5 u.wa
  s6 : Sts w x.v6 u.pa
theorem Sts.one {w : World} {v : Value} {ls : List Nm} (h : Sts w v ls) : v.oneCell' = true := by
  obtain ⟨a, c, rfl, _⟩ := h
  rfl
theorem UVIs.one {w : World} {x : UV} {u : GU} (h : UVIs w x u) : ∀ v ∈ x.cells, v.oneCell' = true := by
  intro v hv
  simp only [UV.cells, List.mem_cons, List.not_mem_nil, or_false] at hv
  rcases hv with rfl | rfl | rfl | rfl | rfl | rfl | rfl | rfl
  · rfl
  · exact h.s1.one
  · exact h.s2.one
  · exact h.s3.one
  · exact h.s4.one
  · exact h.s5.one
  · exact h.s6.one
  · rfl
theorem info_uv : (Tryz.prog.info? 63).map (·.size) = some 8 := by kernel_rfl
theorem UVIs.later {w w' : World} {x : UV} {u : GU} (h : UVIs w x u) (hb : Below w.heap.size w w') : UVIs w' x u :=
  ⟨h.name, h.ret, h.s1.later hb, h.s2.later hb, h.s3.later hb, h.s4.later hb, h.s5.later hb, h.s6.later hb⟩
theorem sts_nil (w : World) : Sts w (.slice none 0 0) [] := ⟨none, 0, rfl, Nat.le_refl _, Nat.zero_le _, fun h => absurd h (Nat.lt_irrefl _)⟩
theorem UVIs.zero (w : World) : UVIs w UV.zero GU.zero := ⟨rfl, rfl, sts_nil w, sts_nil w, sts_nil w, sts_nil w, sts_nil w, sts_nil w⟩
abbrev keyN (n : Nm) : Value := .string (toB n)
theorem kindsN {kt : TypeId} {P : Program} (h : P.underlying kt = some .string) : Kinds P kt keyN := by
  have k := kinds_string h
  obtain ⟨d, h1, h2, h3⟩ := k.now
  exact ⟨⟨d, h1, fun a => h2 _, fun a b hab => h3 _ _ fun e => hab (toB_inj e)⟩, fun e a w => k.check e _ w, fun a => k.stays _⟩
def entsU (xs : List UV) : List (Nm × Value) := xs.map fun x => (x.name, x.val)
inductive Units (w : World) : List UV → List GU → Prop
  | nil : Units w [] []
  | cons {x : UV} {u : GU} {xs : List UV} {us : List GU} : UVIs w x u → Units w xs us → Units w (x :: xs) (u :: us)
theorem Units.later {w w' : World} {xs : List UV} {us : List GU} (h : Units w xs us) (hb : Below w.heap.size w w') : Units w' xs us := by
  induction h with
  | nil => exact .nil
  | cons h1 _ ih => exact .cons (h1.later hb) ih
theorem Units.names {w : World} {xs : List UV} {us : List GU} (h : Units w xs us) : xs.map (·.name) = namesU us := by
  induction h with
  | nil => rfl
  | cons h1 _ ih => simp [namesU, h1.name] at ih ⊢; exact ih
theorem Units.looks {w : World} {xs : List UV} {us : List GU} (h : Units w xs us) (n : Nm) : (n ∈ namesU us → ∃ x, look (entsU xs) n = some x.val ∧ x.name = n ∧ UVIs w x (findU us n)) ∧ (n ∉ namesU us → look (entsU xs) n = none) := by
  induction h with
  | nil => exact ⟨fun hn => by simp [namesU] at hn, fun _ => rfl⟩
  | @cons x u xs us h1 h2 ih =>
    by_cases hx : x.name = n
    · have hu : u.name = n := h1.name ▸ hx
      refine ⟨fun _ => ⟨x, ?_, hx, ?_⟩, fun hn => absurd (by rw [← hu]; simp [namesU]) hn⟩
      · unfold look entsU; simp [hx]
      · unfold findU; rw [List.find?_cons, decide_eq_true hu]; exact h1
    · have hu : ¬ u.name = n := fun e => hx (h1.name.trans e)
      have e1 : look (entsU (x :: xs)) n = look (entsU xs) n := by unfold entsU; rw [List.map_cons]; conv => lhs; unfold look; rw [if_neg hx]
      have e2 : findU (u :: us) n = findU us n := by unfold findU; rw [List.find?_cons, decide_eq_false hu]
      rw [e1, e2]
      refine ⟨fun hn => ih.1 ?_, fun hn => ih.2 ?_⟩
      · rcases List.mem_cons.1 hn with e | h
        · exact absurd e.symm hu
        · exact h
      · exact fun h => hn (List.mem_cons_of_mem _ h)
structure UsAt (w : World) (g bu : Nat) (xs : List UV) (us : List GU) : Prop where
  cell : w.cell? ⟨g, 0, none⟩ = some (.map (some bu))
  map : ∃ o, w.heap[bu]? = some o ∧ MapO keyN o (entsU xs)
  units : Units w xs us
theorem UsAt.later {w w' : World} {g bu : Nat} {xs : List UV} {us : List GU} (h : UsAt w g bu xs us) (hb : Below w.heap.size w w') : UsAt w' g bu xs us := by
  obtain ⟨o, h1, h2⟩ := h.map
  have hg : g < w.heap.size := World.block_lt_of_cell? w ⟨g, 0, none⟩ h.cell
  exact ⟨(hb.cell (p := ⟨g, 0, none⟩) hg).trans h.cell, ⟨o, (hb.block _ (lt_of_heap h1)).trans h1, h2⟩, h.units.later hb⟩
theorem und_us : Tryz.prog.underlying 115 = some (.map 9 63) := by kernel_rfl
theorem und_str : Tryz.prog.underlying 9 = some .string := by kernel_rfl
theorem zero_unit (w : World) : (zeroValue 63).run Tryz.prog w = .ok UV.zero.val w := by
  rw [Tryz.zeroValue63]; rfl
theorem UsAt.lookup {w : World} {g bu : Nat} {xs : List UV} {us : List GU} (h : UsAt w g bu xs us) (n : Nm) : ∃ x, UVIs w x (findU us n) ∧ ∀ w2, Below w.heap.size w w2 → ∀ c, (Instr.lookup 115 (.map (some bu)) (.string (toB n)) c).run Tryz.prog w2 = .ok (if c then .tuple #[x.val, .bool (decide (n ∈ namesU us))] else x.val) w2 := by
  obtain ⟨o, h1, h2⟩ := h.map
  have hl := fun w2 (hb : Below w.heap.size w w2) c => h2.lookup (P := Tryz.prog) (kindsN und_str) und_us (zero_unit w2) ((hb.block _ (lt_of_heap h1)).trans h1) n c
  by_cases hn : n ∈ namesU us
  · obtain ⟨x, e1, _, e3⟩ := (h.units.looks n).1 hn
    refine ⟨x, e3, fun w2 hb c => ?_⟩
    rw [hl w2 hb c, e1, decide_eq_true hn]; rfl
  · have e1 := (h.units.looks n).2 hn
    refine ⟨UV.zero, by rw [findU_none hn]; exact UVIs.zero w, fun w2 hb c => ?_⟩
    rw [hl w2 hb c, e1, decide_eq_false hn]; rfl
set_option maxHeartbeats 1000000 in
theorem has_any {w : World} {g bu : Nat} {xs : List UV} {us : List GU} (h : UsAt w g bu xs us) (n : Nm) :
    Calls Tryz.prog 46 #[.pointer (some ⟨g, 0, none⟩), .string (toB n)] w fun e w' => e = .returned (.bool (decide (n ∈ namesU us))) ∧ Below w.heap.size w w' := by
  obtain ⟨x, hx, hl0⟩ := h.lookup n
  have hl := hl0 w (Below.refl _ _) true
  clear hl0
  have hc := h.cell
  simp only [if_true] at hl
  have hone := Lib.hid hx.one
  have hcs : (Tryz.prog.info? 63).map (·.size) = some x.cells.length := info_uv
  clear h hx
  unfold UV.val at hl
  generalize decide (n ∈ namesU us) = b at *
  generalize toB n = nb at *
  have h8 := Lib.hid (show (8 : Nat) = x.cells.length from rfl)
  generalize x.cells = cs at *
  go_enter Tryz.func46, Tryz.ntmps46
  go_wp2_with (refine wpList_store_new rfl 63 (.tmp 5) (.tmp 14) rfl (Own.start w) cs w.heap.size rfl rfl rfl h8.out hcs hone.out ?_)
  intro w' HO _
  have HB := Lib.hid HO.below
  clear HO
  go_wp2_with fail
  go_ret
  exact ⟨rfl, HB.out⟩
theorem missing_any {w : World} {g bu bx : Nat} {xs : List UV} {us : List GU} (h : UsAt w g bu xs us) (hx : w.cell? ⟨bx, 0, none⟩ = some (.pointer (some ⟨g, 0, none⟩))) (n : Nm) :
    Calls Tryz.prog 86 #[.string (toB n), .pointer (some ⟨bx, 0, none⟩)] w fun e w' => e = .returned (.bool (!decide (n ∈ namesU us))) ∧ Below w.heap.size w w' := by
  have hh := has_any h n
  clear h
  generalize decide (n ∈ namesU us) = b at *
  go_enter Tryz.func86, Tryz.ntmps86
  go_wp2_with (go_at_call 46; refine hh.mono ?_; rintro e w' ⟨rfl, hb⟩)
  go_ret
  exact ⟨rfl, hb⟩
end Go.Proofs.YtkhnkidggcjfeaaGreatDoor
end
section
namespace Go.Proofs.YtkhnkidggcjfeaaGreatDoor
open Go.RowKit
open Go.ChangeMaps (setBlock)
set_option maxHeartbeats 2000000 in
theorem lacks_any {w : World} {g bu : Nat} {xs : List UV} {us : List GU} (h : UsAt w g bu xs us) (n : Nm) :
    Calls Tryz.prog 50 #[.pointer (some ⟨g, 0, none⟩), .string (toB n)] w fun e w' => e = .returned (.bool (lacksU us n)) ∧ Below w.heap.size w w' := by
  have hB0 : Below w.heap.size w (w.alloc (.cells #[.pointer (some ⟨g, 0, none⟩)] 59)) := (Below.refl _ w).alloc (Nat.le_refl _) _
  obtain ⟨x, hx, hl0⟩ := h.lookup n
  have hl := hl0 _ hB0 false
  simp only [Bool.false_eq_true, if_false] at hl
  have hc := (h.later hB0).cell
  have HO0 := Lib.hid ((Own.start w).made 59 1 #[.pointer (some ⟨g, 0, none⟩)] 1 rfl (by unfold maxLen; decide))
  have hone := Lib.hid hx.one
  have hcs : (Tryz.prog.info? 63).map (·.size) = some x.cells.length := info_uv
  have H := Lib.hid h
  have HX := Lib.hid hx
  have h8 := Lib.hid (show (8 : Nat) = x.cells.length from rfl)
  have HE := Lib.hid (show lacksU us n = ((findU us n).re.any (fun x => !decide (x ∈ namesU us)) || (findU us n).pa.any (fun x => !decide (x ∈ namesU us))) from rfl)
  have H4 := Lib.hid (show x.cells[4]? = some x.v4 from rfl)
  have H6 := Lib.hid (show x.cells[6]? = some x.v6 from rfl)
  clear hl0 h hx hB0
  unfold UV.val at hl
  generalize toB n = nb at *
  generalize x.cells = cs at *
  go_enter Tryz.func50, Tryz.ntmps50
  go_wp2_with (refine wpList_store_new rfl 63 (.tmp 6) (.tmp 13) rfl HO0.out cs (w.heap.size + 1) (by simp) rfl rfl h8.out hcs hone.out ?_)
  intro w' HO1 _
  have hB := HO1.below
  have hU := H.out.later hB
  have hX := HX.out.later hB
  have c4 : w'.cell? ⟨w.heap.size + 1, 4, none⟩ = some x.v4 := by
    have := HO1.cell 4 (by rw [← h8.out]; decide)
    rw [this]; exact H4.out
  have c6 : w'.cell? ⟨w.heap.size + 1, 6, none⟩ = some x.v6 := by
    have := HO1.cell 6 (by rw [← h8.out]; decide)
    rw [this]; exact H6.out
  have cb : w'.cell? ⟨w.heap.size, 0, none⟩ = some (.pointer (some ⟨g, 0, none⟩)) := HO1.swap.cell 0 (by decide)
  have k1 := containsF_lb 86 #[.pointer (some ⟨w.heap.size, 0, none⟩)] (fun x => !decide (x ∈ namesU us)) (enters_of Tryz.func86 (by kernel_rfl) rfl) x.v4 _ w' hX.s4 (fun W y _ hb => missing_any (hU.later hb) (by rw [hb.cell (p := ⟨w.heap.size, 0, none⟩) (World.block_lt_of_cell? w' ⟨w.heap.size, 0, none⟩ cb)]; exact cb) y)
  have K2 := Lib.hid (fun w2 (hb2 : Below w'.heap.size w' w2) => containsF_lb 86 #[.pointer (some ⟨w.heap.size, 0, none⟩)] (fun x => !decide (x ∈ namesU us)) (enters_of Tryz.func86 (by kernel_rfl) rfl) x.v6 _ w2 (hX.s6.later hb2) (fun W y _ hb => missing_any ((hU.later hb2).later hb) (by rw [(hb2.trans (hb.mono hb2.size)).cell (p := ⟨w.heap.size, 0, none⟩) (World.block_lt_of_cell? w' ⟨w.heap.size, 0, none⟩ cb)]; exact cb) y))
  have C6 := Lib.hid c6
  have HB := Lib.hid hB
  have h6lt := Lib.hid (World.block_lt_of_cell? w' ⟨w.heap.size + 1, 6, none⟩ c6)
  clear hB hU hX cb c6 HO1
  generalize x.v4 = v4 at *
  generalize x.v6 = v6 at *
  cases hr : (findU us n).re.any (fun x => !decide (x ∈ namesU us)) with
  | true =>
    rw [hr] at k1
    have HR := Lib.hid hr
    clear hr
    go_wp2_with (go_at_call 54; refine k1.mono ?_; rintro e w' ⟨rfl, hb⟩)
    go_ret
    exact ⟨by rw [HE.out, HR.out]; rfl, HB.out.trans (hb.mono HB.out.size)⟩
  | false =>
    rw [hr] at k1
    have HR := Lib.hid hr
    clear hr
    go_wp2_with (first
      | (go_at_call 54; have _g := C6.out; clear _g; refine k1.mono ?_; rintro e w2 ⟨rfl, hb⟩; have c6 := (hb.cell (p := ⟨w.heap.size + 1, 6, none⟩) h6lt.out).trans C6.out; clear C6; have HB2 := Lib.hid hb; clear hb)
      | (go_at_call 54; refine (K2.out w2 HB2.out).mono ?_; rintro e w3 ⟨rfl, hb⟩))
    go_ret
    refine ⟨by rw [HE.out, HR.out]; rfl, HB.out.trans ((HB2.out.trans (hb.mono HB2.out.size)).mono HB.out.size)⟩
def rows6 (y : UV) (u : GU) : List Rw := [rowSs y.v1 u.fi, rowSs y.v2 u.af, rowSs y.v3 u.be, rowSs y.v4 u.re, rowSs y.v5 u.wa, rowSs y.v6 u.pa]
structure Bnd (u : GU) : Prop where
  b1 : u.fi.length ≤ 1000000
  b2 : u.af.length ≤ 1000000
  b3 : u.be.length ≤ 1000000
  b4 : u.re.length ≤ 1000000
  b5 : u.wa.length ≤ 1000000
  b6 : u.pa.length ≤ 1000000
end Go.Proofs.YtkhnkidggcjfeaaGreatDoor
end
section
namespace Go.Proofs.YtkhnkidggcjfeaaGreatDoor
open Go.RowKit
open Go.ChangeMaps (setBlock)
def rowsL : List Value → List (List Nm) → List Rw
  | v :: vs, l :: ls => rowsL vs ls ++ [rowSs v l]
  | _, _ => []
theorem rowsL_snoc : ∀ (vs : List Value) (ls : List (List Nm)) (v : Value) (l : List Nm), vs.length = ls.length → rowsL (vs ++ [v]) (ls ++ [l]) = rowSs v l :: rowsL vs ls := by
  intro vs
  induction vs with
  | nil => intro ls v l h; cases ls with | nil => rfl | cons a r => simp at h
  | cons a r ih =>
    intro ls v l h
    cases ls with
    | nil => simp at h
    | cons b s =>
      simp only [List.cons_append, rowsL]
      rw [ih s v l (by simpa using h)]
      rfl
theorem Sts.shape {w : World} {v : Value} {ls : List Nm} (h : Sts w v ls) : ∃ a n c, v = .slice a n c := by
  obtain ⟨a, c, e, _⟩ := h
  exact ⟨a, _, c, e⟩
def ptr1 (b k : Nat) : Value := .pointer (some ⟨b, k, none⟩)
theorem box_at (n r : Value) (ys VS : List Value) (k : Nat) (hy : ys.length = k) (hk : k < VS.length) : ([n] ++ ys ++ VS.drop k ++ [r])[k + 1]? = some VS[k] ∧ ∀ v, ([n] ++ ys ++ VS.drop k ++ [r]).set (k + 1) v = [n] ++ (ys ++ [v]) ++ VS.drop (k + 1) ++ [r] := by
  have hd : VS.drop k = VS[k] :: VS.drop (k + 1) := List.drop_eq_getElem_cons _
  have hl : ([n] ++ ys).length = k + 1 := by simp; omega
  rw [hd]
  generalize VS[k] = x
  generalize VS.drop (k + 1) = t
  refine ⟨?_, fun v => ?_⟩
  · rw [List.append_assoc, List.getElem?_append_right (by omega), hl]; simp
  · rw [List.append_assoc, List.set_append_right _ _ (by omega), hl]; simp
theorem Own.oneV {W0 : Base} {w : World} {L : List Rw} (h : Own W0 w L) {p : Rw} (hp : p ∈ L) : p.v.oneCell' = true := by
  rcases (h.rows p hp).2 with ⟨e, _⟩ | ⟨g, c, cur, e, _⟩
  · rw [e]; rfl
  · rw [e]; rfl
theorem ret_cellG {P : Program} {fn : Func} {p : Tmp} {ty : TypeId} (h : fn.results = #[.cell p ty]) {tmps : Array Value} {w : World} {b : Nat} {cs : List Value} {d : TypeDesc} (hp : tmps.getD p undef = .pointer (some ⟨b, 0, none⟩))
    (hr : w.rangeAt b 0 cs) (ht : P.underlying ty = some d) (hd : d.isRow = true) (hi : (P.info? ty).map (·.size) = some cs.length) : (results fn tmps).run P w = .ok (.agg cs.toArray) w := by
  have e : (asAddr (.pointer (some ⟨b, 0, none⟩))).run P w = .ok ⟨b, 0, none⟩ w := rfl
  have hp' : tmps[p]?.getD undef = .pointer (some ⟨b, 0, none⟩) := by simpa using hp
  simp only [results, h]
  simp [Sem.run_bind, Result.andThen, hp', e, run_loadVar_mid w b 0 ty cs d hr ht hd hi]
set_option maxHeartbeats 4000000 in
theorem apart_any (w : World) (x : UV) (u : GU) (h : UVIs w x u) (hb : Bnd u) :
    Calls Tryz.prog 47 #[x.val] w fun e w' => ∃ y : UV, e = .returned y.val ∧ y.name = u.name ∧ y.ret = u.ret ∧ Own w w' (rows6 y u) := by
  have hname := h.name
  have hret := h.ret
  obtain ⟨n0, v1, v2, v3, v4, v5, v6, rt⟩ := x
  have S := Lib.hid (show ∀ k (hk : k < 6), ∃ l, u.lists[k]? = some l ∧ l.length ≤ 1000000 ∧ Sts w ([v1, v2, v3, v4, v5, v6].getD k undef) l from fun k hk => by
    match k, hk with
    | 0, _ => exact ⟨_, rfl, hb.b1, h.s1⟩
    | 1, _ => exact ⟨_, rfl, hb.b2, h.s2⟩
    | 2, _ => exact ⟨_, rfl, hb.b3, h.s3⟩
    | 3, _ => exact ⟨_, rfl, hb.b4, h.s4⟩
    | 4, _ => exact ⟨_, rfl, hb.b5, h.s5⟩
    | 5, _ => exact ⟨_, rfl, hb.b6, h.s6⟩)
  have hname : n0 = u.name := hname
  have hret : rt = u.ret := hret
  subst hname hret
  obtain ⟨a1, m1, c1, e1⟩ := h.s1.shape
  obtain ⟨a2, m2, c2, e2⟩ := h.s2.shape
  obtain ⟨a3, m3, c3, e3⟩ := h.s3.shape
  obtain ⟨a4, m4, c4, e4⟩ := h.s4.shape
  obtain ⟨a5, m5, c5, e5⟩ := h.s5.shape
  obtain ⟨a6, m6, c6, e6⟩ := h.s6.shape
  simp only at e1 e2 e3 e4 e5 e6
  subst e1 e2 e3 e4 e5 e6
  have HU := Lib.hid (show u.lists.length = 6 from rfl)
  have HF := Lib.hid (show ∀ y : UV, rowsL [y.v1, y.v2, y.v3, y.v4, y.v5, y.v6] u.lists = (rows6 y u).reverse from fun y => rfl)
  clear h hb
  have O1 := (Own.start w).made_at 63 8 #[.string (toB u.name), .slice a1 m1 c1, .slice a2 m2 c2, .slice a3 m3 c3, .slice a4 m4 c4, .slice a5 m5 c5, .slice a6 m6 c6, .int .i64 u.ret] 1 w.heap.size rfl rfl (by unfold maxLen; decide)
  have O2 := O1.made_at 63 8 #[.string ⟨#[]⟩, .slice none 0 0, .slice none 0 0, .slice none 0 0, .slice none 0 0, .slice none 0 0, .slice none 0 0, .int .i64 0] 1 (w.heap.size + 1) (by simp) rfl (by unfold maxLen; decide)
  have O3 := O2.made_at 168 1 #[.pointer (some ⟨w.heap.size, 1, none⟩), .pointer (some ⟨w.heap.size, 2, none⟩), .pointer (some ⟨w.heap.size, 3, none⟩), .pointer (some ⟨w.heap.size, 4, none⟩), .pointer (some ⟨w.heap.size, 5, none⟩), .pointer (some ⟨w.heap.size, 6, none⟩)] 6 (w.heap.size + 1 + 1) (by simp) rfl (by unfold maxLen; decide)
  obtain ⟨W3, hW3⟩ : ∃ W3, W3 = ((w.alloc (.cells #[.string (toB u.name), .slice a1 m1 c1, .slice a2 m2 c2, .slice a3 m3 c3, .slice a4 m4 c4, .slice a5 m5 c5, .slice a6 m6 c6, .int .i64 u.ret] 63)).alloc (.cells #[.string ⟨#[]⟩, .slice none 0 0, .slice none 0 0, .slice none 0 0, .slice none 0 0, .slice none 0 0, .slice none 0 0, .int .i64 0] 63)).alloc (.cells #[.pointer (some ⟨w.heap.size, 1, none⟩), .pointer (some ⟨w.heap.size, 2, none⟩), .pointer (some ⟨w.heap.size, 3, none⟩), .pointer (some ⟨w.heap.size, 4, none⟩), .pointer (some ⟨w.heap.size, 5, none⟩), .pointer (some ⟨w.heap.size, 6, none⟩)] 168) := ⟨_, rfl⟩
  rw [← hW3] at O3
  have HW3 := Lib.hid hW3
  show Calls Tryz.prog 47 #[.agg #[.string (toB u.name), .slice a1 m1 c1, .slice a2 m2 c2, .slice a3 m3 c3, .slice a4 m4 c4, .slice a5 m5 c5, .slice a6 m6 c6, .int .i64 u.ret]] w _
  obtain ⟨VS, hVS⟩ : ∃ VS, VS = [Value.slice a1 m1 c1, .slice a2 m2 c2, .slice a3 m3 c3, .slice a4 m4 c4, .slice a5 m5 c5, .slice a6 m6 c6] := ⟨_, rfl⟩
  have hVl : VS.length = 6 := by rw [hVS]; rfl
  obtain ⟨ZL, hZL⟩ : ∃ ZL : List Value, ZL = (#[.string ⟨#[]⟩, .slice none 0 0, .slice none 0 0, .slice none 0 0, .slice none 0 0, .slice none 0 0, .slice none 0 0, .int .i64 0] : Array Value).toList := ⟨_, rfl⟩
  obtain ⟨PL, hPL⟩ : ∃ PL : List Value, PL = (#[.pointer (some ⟨w.heap.size, 1, none⟩), .pointer (some ⟨w.heap.size, 2, none⟩), .pointer (some ⟨w.heap.size, 3, none⟩), .pointer (some ⟨w.heap.size, 4, none⟩), .pointer (some ⟨w.heap.size, 5, none⟩), .pointer (some ⟨w.heap.size, 6, none⟩)] : Array Value).toList := ⟨_, rfl⟩
  have HP := Lib.hid (show ∀ k, k < 6 → PL[k]? = some (.pointer (some ⟨w.heap.size, k + 1, none⟩)) from fun k hk => by
    rw [hPL]
    match k, hk with
    | 0, _ => rfl
    | 1, _ => rfl
    | 2, _ => rfl
    | 3, _ => rfl
    | 4, _ => rfl
    | 5, _ => rfl)
  have HS := Lib.hid (show ∀ k (hk : k < VS.length), ∃ l, u.lists[k]? = some l ∧ l.length ≤ 1000000 ∧ Sts w VS[k] l from fun k hk => by
    obtain ⟨l, e1, e2, e3⟩ := S.out k (by omega)
    refine ⟨l, e1, e2, ?_⟩
    rw [← hVS, List.getD, List.getElem?_eq_getElem hk] at e3
    exact e3)
  have HO : Hid (Own w W3 (⟨63, 8, .slice (some ⟨w.heap.size, 0, none⟩) 1 1, 1, [Value.string (toB u.name)] ++ [] ++ VS.drop 0 ++ [Value.int .i64 u.ret]⟩ :: ⟨168, 1, .slice (some ⟨w.heap.size + 1 + 1, 0, none⟩) 6 6, 6, PL⟩ :: ⟨63, 8, .slice (some ⟨w.heap.size + 1, 0, none⟩) 1 1, 1, ZL⟩ :: [])) := by
    rw [hVS, hPL, hZL]
    exact O3.third
  have HZ := Lib.hid (show ZL.length = 8 from by rw [hZL]; rfl)
  have HVl := Lib.hid hVl
  clear O1 O2 O3 hW3 hVS hZL hPL hVl S hret hname
  generalize hnb : toB u.name = nb at HW3 HO ⊢
  generalize hrt : u.ret = rt at HW3 HO ⊢
  have HNB := Lib.hid hnb
  have HRT := Lib.hid hrt
  clear hnb hrt
  go_enter Tryz.func47, Tryz.ntmps47
  go_wp2_with fail
  rw [← HW3.out]
  clear HW3
  go_loopw [13] (fun s wr => ∃ (k : Nat) (ys : List Value), k ≤ 6 ∧ s = .int .i64 k ∧ Hid (ys.length = k) ∧ Hid (Own w wr (⟨63, 8, .slice (some ⟨w.heap.size, 0, none⟩) 1 1, 1, [Value.string nb] ++ ys ++ VS.drop k ++ [Value.int .i64 rt]⟩ :: ⟨168, 1, .slice (some ⟨w.heap.size + 1 + 1, 0, none⟩) 6 6, 6, PL⟩ :: ⟨63, 8, .slice (some ⟨w.heap.size + 1, 0, none⟩) 1 1, 1, ZL⟩ :: rowsL ys (u.lists.take k)))) (fun s _ => 6 - (intOf s).toNat)
  case atStart => exact ⟨0, [], Nat.zero_le _, rfl, rfl, HO.out⟩
  case round =>
    obtain ⟨k, ys, hk, rfl, HY, HR⟩ := hrel
    by_cases hlt : k < 6
    · obtain ⟨l, hl1, hl2, hl3⟩ := HS.out k (by rw [HVl.out]; exact hlt)
      have cp : wr.cell? ⟨w.heap.size + 1 + 1, k, none⟩ = some (.pointer (some ⟨w.heap.size, k + 1, none⟩)) := by
        rw [HR.out.swap.cell k (by omega)]; exact HP.out k hlt
      obtain ⟨hat, hset⟩ := box_at (.string nb) (.int .i64 rt) ys VS k HY.out (by rw [HVl.out]; exact hlt)
      have cv : wr.cell? ⟨w.heap.size, k + 1, none⟩ = some (VS[k]'(by rw [HVl.out]; exact hlt)) := by
        rw [HR.out.cell (k + 1) (by omega)]; exact hat
      have fv : wr.frozen? ⟨w.heap.size, k + 1, none⟩ = false := HR.out.free (k + 1)
      have hcall := cloneS_sts _ l wr (hl3.later HR.out.below) hl2
      have HSet := Lib.hid hset
      have Hl1 := Lib.hid hl1
      clear hl1 hl2 hl3 hat hset
      generalize hvk : (VS[k]'(by rw [HVl.out]; exact hlt)) = vk at *
      have Hvk := Lib.hid hvk
      clear hvk
      go_wp2_with (go_at_call 71; refine hcall.mono ?_; rintro e w8 ⟨v8, rfl, hO8⟩; have HO8 := Lib.hid (HR.out.join hO8); have hb8 := hO8.below; have cp8 := hb8.cell (p := ⟨w.heap.size, k + 1, none⟩) (World.block_lt_of_cell? wr ⟨w.heap.size, k + 1, none⟩ cv); have cv8 := cp8.trans cv; have fv8 : w8.frozen? ⟨w.heap.size, k + 1, none⟩ = false := (show Own w w8 (_ :: _) from HO8.out.swap).free (k + 1); obtain ⟨a8, n8, c8, rfl⟩ := hO8.sts.shape; clear hb8 cp8 cv fv cp)
      have HO9 := Lib.hid ((show Own w w8 (_ :: _) from HO8.out.swap).set (k + 1) (.slice a8 n8 c8))
      rw [HSet.out] at HO9
      go_roundw
      case rel =>
        refine ⟨k + 1, ys ++ [.slice a8 n8 c8], by omega, by go_num, (by show (ys ++ [Value.slice a8 n8 c8]).length = k + 1; simp [HY.out]), (show Own _ _ _ from ?_)⟩
        have e1 : u.lists.take (k + 1) = u.lists.take k ++ [l] := by
          rw [List.take_add_one, Hl1.out]; rfl
        rw [e1, rowsL_snoc _ _ _ _ (by rw [HY.out, List.length_take, HU.out]; omega)]
        exact HO9.out.perm ((((List.Perm.swap _ _ _).cons _).trans (((List.Perm.swap _ _ _).cons _).cons _)).trans (List.Perm.refl _))
      case measure => simp [intOf]; omega
    · obtain rfl : k = 6 := by omega
      obtain ⟨y1, y2, y3, y4, y5, y6, rfl⟩ : ∃ a b c d e f, ys = [a, b, c, d, e, f] := by
        match ys, HY.out with
        | [a, b, c, d, e, f], _ => exact ⟨a, b, c, d, e, f, rfl⟩
      have e0 : [Value.string nb] ++ [y1, y2, y3, y4, y5, y6] ++ VS.drop 6 ++ [Value.int .i64 rt] = [Value.string nb, y1, y2, y3, y4, y5, y6, .int .i64 rt] := by
        rw [List.drop_eq_nil_of_le (by rw [HVl.out]; exact Nat.le_refl _)]; rfl
      have hR := HR.out
      rw [e0, show u.lists.take 6 = u.lists from List.take_of_length_le (by rw [HU.out]; exact Nat.le_refl _)] at hR
      have hR6 := HF.out ⟨u.name, y1, y2, y3, y4, y5, y6, rt⟩
      simp only at hR6
      rw [hR6] at hR
      have hone : ∀ v ∈ [Value.string nb, y1, y2, y3, y4, y5, y6, .int .i64 rt], v.oneCell' = true := by
        have k1 := fun p (hp : p ∈ rows6 ⟨u.name, y1, y2, y3, y4, y5, y6, rt⟩ u) => hR.oneV (p := p) (List.mem_cons_of_mem _ (List.mem_cons_of_mem _ (List.mem_cons_of_mem _ (List.mem_reverse.2 hp))))
        intro v hv
        simp only [List.mem_cons, List.not_mem_nil, or_false] at hv
        rcases hv with rfl | rfl | rfl | rfl | rfl | rfl | rfl | rfl
        · rfl
        · exact k1 (rowSs _ _) (List.mem_cons_self ..)
        · exact k1 (rowSs _ _) (List.mem_cons_of_mem _ (List.mem_cons_self ..))
        · exact k1 (rowSs _ _) (List.mem_cons_of_mem _ (List.mem_cons_of_mem _ (List.mem_cons_self ..)))
        · exact k1 (rowSs _ _) (List.mem_cons_of_mem _ (List.mem_cons_of_mem _ (List.mem_cons_of_mem _ (List.mem_cons_self ..))))
        · exact k1 (rowSs _ _) (List.mem_cons_of_mem _ (List.mem_cons_of_mem _ (List.mem_cons_of_mem _ (List.mem_cons_of_mem _ (List.mem_cons_self ..)))))
        · exact k1 (rowSs _ _) (List.mem_cons_of_mem _ (List.mem_cons_of_mem _ (List.mem_cons_of_mem _ (List.mem_cons_of_mem _ (List.mem_cons_of_mem _ (List.mem_cons_self ..))))))
        · rfl
      have HR2 := Lib.hid hR
      have HOne := Lib.hid hone
      have hr1 : wr.rangeAt w.heap.size 0 [Value.string nb, y1, y2, y3, y4, y5, y6, .int .i64 rt] := by
        have := hR.range 0 8
        simpa using this
      have hth : wr.there (w.heap.size + 1) 0 8 := (hR.third).there 0 8 (by decide)
      clear hR hR6 e0 hone
      go_wp2_with (first
        | (refine wpList_load_mid rfl 63 (.tmp 1) rfl w.heap.size 0 rfl [Value.string nb, y1, y2, y3, y4, y5, y6, .int .i64 rt] _ hr1 Tryz.underlying63 rfl info_uv ?_)
        | (refine wpList_store_mid rfl 63 (.tmp 2) (.tmp 24) rfl (w.heap.size + 1) 0 #[Value.string nb, y1, y2, y3, y4, y5, y6, .int .i64 rt] rfl rfl hth info_uv (all_oneCell_toArray HOne.out) ?_))
      have h9 := HR2.out.third.setCells [Value.string nb, y1, y2, y3, y4, y5, y6, .int .i64 rt] 0
      rw [splice_all' ZL _ (by rw [HZ.out]; rfl)] at h9
      have hr9 := h9.range 0 8
      refine bodyPost_ret (v := .agg [Value.string nb, y1, y2, y3, y4, y5, y6, .int .i64 rt].toArray) (ret_cellG Tryz.results47 rfl (by simpa using hr9) Tryz.underlying63 rfl info_uv) rfl ?_
      refine ⟨⟨u.name, y1, y2, y3, y4, y5, y6, rt⟩, ?_, rfl, rfl, h9.tail.tail.tail.perm (List.reverse_perm _)⟩
      show Ending.returned (Value.agg [Value.string nb, y1, y2, y3, y4, y5, y6, .int .i64 rt].toArray) = Ending.returned (Value.agg [Value.string (toB u.name), y1, y2, y3, y4, y5, y6, .int .i64 rt].toArray)
      rw [HNB.out]
end Go.Proofs.YtkhnkidggcjfeaaGreatDoor
end
section
namespace Go.Proofs.YtkhnkidggcjfeaaGreatDoor
open Go.RowKit
open Go.ChangeMaps (setBlock)
theorem below_setG {B : Nat} {a w : World} (h : Below B a w) {r : Nat} (hr : B ≤ r) (o : Obj) : Below B a (setBlock w r o) :=
  h.trans ⟨rfl, rfl, rfl, by simp [setBlock], fun i hi => by
    have : r ≠ i := by omega
    simp [setBlock, this]⟩
def GW (w : World) (r bu : Nat) (xs : List UV) (oi o : Obj) (done left : List UV) (wr : World) : Prop :=
  wr.heap[r]? = some oi ∧ w.heap[bu]? = some o ∧ IterO keyN oi bu o (entsU xs) (entsU left) ∧ (done ++ left).Perm xs ∧ Below w.heap.size w wr ∧ w.heap.size ≤ r
theorem GW.start {w w1 : World} {g bu : Nat} {xs : List UV} {us : List GU} (h : UsAt w g bu xs us) (hb : Below w.heap.size w w1) : ∃ oi o, (Instr.range 115 (.map (some bu))).run Tryz.prog w1 = .ok (.pointer (some ⟨w1.heap.size, 0, none⟩)) (w1.alloc oi) ∧ GW w w1.heap.size bu xs oi o [] xs (w1.alloc oi) := by
  obtain ⟨o, h1, h2⟩ := h.map
  obtain ⟨oi, h3, h4⟩ := h2.range und_us ((hb.block _ (lt_of_heap h1)).trans h1)
  exact ⟨oi, o, h3, (MapKept.heap_alloc w1 _).1, h1, h4, List.Perm.refl _, hb.alloc hb.size _, hb.size⟩
theorem GW.next {w wr : World} {r bu : Nat} {xs : List UV} {oi o : Obj} {done left : List UV} (h : GW w r bu xs oi o done left wr) :
    (left = [] ∧ ∀ ty, (Instr.next (.pointer (some ⟨r, 0, none⟩)) false ty).run Tryz.prog wr = .ok (.tuple #[.bool false]) wr) ∨
    ∃ (l1 l2 : List UV) (p : UV) (oi' : Obj) (w1 : World), left = l1 ++ p :: l2 ∧ (w1 = wr ∨ w1 = wr.drew) ∧ (∀ ty, (Instr.next (.pointer (some ⟨r, 0, none⟩)) false ty).run Tryz.prog wr = .ok (.tuple #[.bool true, .string (toB p.name), p.val]) (setBlock w1 r oi')) ∧
      GW w r bu xs oi' o (done ++ [p]) (l1 ++ l2) (setBlock w1 r oi') ∧ p ∈ xs ∧
      (∀ u : World, u.heap[r]? = some oi' → u.heap[bu]? = some o → (Instr.entry (.pointer (some ⟨r, 0, none⟩))).run Tryz.prog u = .ok (.tuple #[.string (toB p.name), p.val]) u) := by
  obtain ⟨h1, h2, h3, h4, h5, h6⟩ := h
  have hlt := lt_of_heap h2
  have h2' : wr.heap[bu]? = some o := (h5.block _ hlt).trans h2
  rcases h3.next (P := Tryz.prog) 0 h1 h2' with ⟨g1, g2⟩ | ⟨x, y, z, w1, oi', g1, g2, g3, g4, g5⟩
  · left
    have : left = [] := List.map_eq_nil_iff.1 g1
    exact ⟨this, fun ty => g2⟩
  · right
    obtain ⟨l1, p, l2, e1, e2, e3, e4⟩ := map_split _ left x y z g1
    have hb1 : Below w.heap.size w w1 := by rcases g2 with rfl | rfl; exact h5; exact h5.drew
    have hlt1 : r < w1.heap.size := by rcases g2 with rfl | rfl <;> exact lt_of_heap h1
    obtain ⟨s1, s2, s3⟩ := setBlock_heap w1 r oi' hlt1
    refine ⟨l1, l2, p, oi', w1, e1, g2, fun ty => by rw [show (Instr.next (.pointer (some ⟨r, 0, none⟩)) false ty) = (Instr.next (.pointer (some ⟨r, 0, none⟩)) false 0) from rfl, g3, ← e3], ⟨s1, h2, by rw [show entsU (l1 ++ l2) = x ++ z by rw [← e2, ← e4]; simp [entsU]]; exact g4, ?_, below_setG hb1 h6 _, h6⟩, ?_, fun u hu hu2 => by rw [g5 u hu hu2, ← e3]⟩
    · refine List.Perm.trans ?_ h4
      rw [e1]
      simp only [List.append_assoc, List.singleton_append]
      exact (List.perm_middle.symm).append_left done
    · exact h4.subset (by rw [e1]; simp)
theorem GW.entry {w wr : World} {r bu : Nat} {xs : List UV} {oi o : Obj} {done left : List UV} (h : GW w r bu xs oi o done left wr) : wr.heap[r]? = some oi ∧ wr.heap[bu]? = some o := ⟨h.1, (h.2.2.2.2.1.block _ (lt_of_heap h.2.1)).trans h.2.1⟩
def leftG (w : World) (b r : Nat) : Nat := match w.heap[b]?, w.heap[r]? with
  | some (.map es _), some (.mapIter _ _ seen _) => (leftOf es seen).size
  | _, _ => 0
theorem GW.left_eq {w wr : World} {r bu : Nat} {xs : List UV} {oi o : Obj} {done left : List UV} (h : GW w r bu xs oi o done left wr) : leftG wr bu r = left.length := by
  obtain ⟨e1, e2⟩ := h.entry
  obtain ⟨es, clock, since, seen, c0, rfl, rfl, _, _, _, _, _, _, h7⟩ := h.2.2.1
  have := congrArg List.length h7
  simp only [leftG, e1, e2]
  simpa [entsU] using this
theorem Units.len {w : World} {xs : List UV} {us : List GU} (h : Units w xs us) : xs.length = us.length := by
  have := congrArg List.length h.names
  simpa [namesU] using this
theorem Units.mem {w : World} {xs : List UV} {us : List GU} (h : Units w xs us) (hd : (namesU us).Nodup) {x : UV} (hx : x ∈ xs) : x.name ∈ namesU us ∧ UVIs w x (findU us x.name) := by
  have hn : x.name ∈ namesU us := by rw [← h.names]; exact List.mem_map.2 ⟨x, hx, rfl⟩
  refine ⟨hn, ?_⟩
  have key : ∃ u ∈ us, UVIs w x u := by
    clear hd hn
    induction h with
    | nil => cases hx
    | cons h1 _ ih =>
      rcases List.mem_cons.1 hx with rfl | hx
      · exact ⟨_, List.mem_cons_self .., h1⟩
      · obtain ⟨u, hu, h2⟩ := ih hx
        exact ⟨u, List.mem_cons_of_mem _ hu, h2⟩
  obtain ⟨u, hu, h2⟩ := key
  rw [h2.name, findU_mem hd hu]
  exact h2
theorem src_one (w : World) (x : Value) (T : TypeId) (h1 : x.oneCell' = true) : Src (w.alloc (.cells #[x] T)) (.slice (some ⟨w.heap.size, 0, none⟩) 1 1) 1 [x] := by
  refine .inr ⟨_, _, rfl, fun j u hj => ?_, fun u hu => by rw [List.mem_singleton.1 hu]; exact h1⟩
  rw [Addr.add_mid, Nat.zero_add, World.cell?_alloc_new]
  simpa using hj
def selN (us : List GU) (n : Nm) (done : List UV) : List Nm := (done.map (·.name)).filter fun m => standU us n (findU us m)
theorem selN_snoc (us : List GU) (n : Nm) (done : List UV) (p : UV) : selN us n (done ++ [p]) = selN us n done ++ if standU us n (findU us p.name) then [p.name] else [] := by
  unfold selN
  rw [List.map_append, List.filter_append]
  cases h : standU us n (findU us p.name) <;> simp [h]
theorem selN_all {us : List GU} {n : Nm} {done : List UV} (hd : (namesU us).Nodup) (hp : (done.map (·.name)).Perm (namesU us)) : sortN (selN us n done) = aheadU us n := by
  unfold aheadU selN
  apply sortN_eq
  refine (hp.filter _).trans ?_
  unfold namesU
  rw [List.filter_map]
  refine List.Perm.of_eq (congrArg _ ?_)
  apply List.filter_congr
  intro u hu
  simp only [Function.comp]
  rw [findU_mem hd hu]
def AhRel (w : World) (bu : Nat) (xs : List UV) (us : List GU) (n : Nm) (r : Nat) (bx : Rw) (v : Value) (wr : World) : Prop :=
  ∃ oi o done left, GW w r bu xs oi o done left wr ∧ Own ⟨w, [(r, oi)]⟩ wr [rowSs v (selN us n done), bx]
set_option maxHeartbeats 4000000 in
theorem ahead_any {w : World} {g bu : Nat} {xs : List UV} {us : List GU} (h : UsAt w g bu xs us) (hd : (namesU us).Nodup) (hlen : us.length ≤ 1000) (n : Nm) :
    Calls Tryz.prog 51 #[.pointer (some ⟨g, 0, none⟩), .string (toB n)] w fun e w' => ∃ v, e = .returned v ∧ Own w w' [rowSs v (aheadU us n)] := by
  obtain ⟨i0, hi, hz0, hz1, hz2⟩ := infoS_ex
  obtain ⟨x, hx, hl0⟩ := h.lookup n
  have hl := hl0 w (Below.refl _ _) false
  simp only [Bool.false_eq_true, if_false] at hl
  have hc := h.cell
  have hone := Lib.hid hx.one
  have hcs : (Tryz.prog.info? 63).map (·.size) = some x.cells.length := info_uv
  have H := Lib.hid h
  have HX := Lib.hid hx
  have h8 := Lib.hid (show (8 : Nat) = x.cells.length from rfl)
  have H2 := Lib.hid (show x.cells[2]? = some x.v2 from rfl)
  have H4 := Lib.hid (show x.cells[4]? = some x.v4 from rfl)
  have HD := Lib.hid hd
  have HN := Lib.hid hlen
  clear hl0 h hx hd hlen
  unfold UV.val at hl
  generalize hnb : toB n = nb at hl ⊢
  have HNB := Lib.hid hnb
  clear hnb
  generalize hxc : x.cells = cs at *
  go_enter Tryz.func51, Tryz.ntmps51
  go_upto_region 3 with (refine wpList_store_new rfl 63 (.tmp 6) (.tmp 14) rfl (Own.start w) cs w.heap.size rfl rfl rfl h8.out hcs hone.out ?_)
  intro w1 HO1 _
  obtain ⟨oi, o, hrun, hW⟩ := GW.start H.out HO1.below
  have hc := (H.out.later HO1.below).cell
  have hr0 := HO1.size
  have HW := Lib.hid (show AhRel w bu xs us n w1.heap.size ⟨63, cs.length, .slice (some ⟨w.heap.size, 0, none⟩) 1 1, 1, cs⟩ (.slice none 0 0) (w1.alloc oi) from ⟨oi, o, [], xs, hW, (HO1.newB oi).nil 9 1⟩)
  clear hW
  have Hr0 := Lib.hid hr0
  clear hr0 HO1
  go_wp2_with fail
  generalize hrr : w1.heap.size = r at *
  have HRR := Lib.hid hrr
  clear hrr hrun
  generalize hbx : (⟨63, cs.length, .slice (some ⟨w.heap.size, 0, none⟩) 1 1, 1, cs⟩ : Rw) = bx at HW
  have HBX := Lib.hid hbx
  clear hbx
  go_loopw [5] (fun s wr => AhRel w bu xs us n r bx s wr) (fun _ wr => leftG wr bu r)
  case atStart => exact HW.out
  case round =>
    obtain ⟨oi2, o2, done, left, hW, hO⟩ := hrel
    have hle := hW.left_eq
    have hperm := hW.2.2.2.1
    have hdone : done.length ≤ 1000 := by have h1 := hperm.length_eq; have h2 := H.out.units.len; have h3 := HN.out; rw [List.length_append] at h1; omega
    have hll : (selN us n done).length ≤ 1000 := by
      have := List.length_filter_le (fun m => standU us n (findU us m)) (done.map (·.name))
      rw [List.length_map] at this
      exact Nat.le_trans this hdone
    rcases hW.next with ⟨rfl, hnx⟩ | ⟨l1, l2, p, oi', w2', rfl, hw1, hnx, hW', hp, hen⟩
    · have hO2 : Own ⟨w, []⟩ wr [rowSs u5 (selN us n done)] := (hO.swap.tail).forget (S' := []) (fun m hm => by cases hm)
      have hs := sortS_row hO2 (by omega)
      have hper : (done.map (·.name)).Perm (namesU us) := by
        rw [List.append_nil] at hperm
        rw [← H.out.units.names]
        exact hperm.map _
      rw [selN_all HD.out hper] at hs
      obtain ⟨fa, fc, hf, _, _⟩ := Own.sized (h := (show Own ⟨w, []⟩ wr (⟨9, 1, u5, (selN us n done).length, strs (selN us n done)⟩ :: []) from hO2))
      clear hW hle hperm hO hO2 hll hdone hper
      subst hf
      go_wp2_with (go_at_call 69; refine hs.mono ?_; rintro e w3 ⟨rfl, hO3⟩; have HO3 := Lib.hid hO3; clear hO3)
      go_ret
      exact ⟨_, rfl, HO3.out⟩
    · have hr : ∀ oi2, ((r, oi2) : Nat × Obj) ∈ [(r, oi2)] := fun _ => List.mem_cons_self ..
      have hO1 : Own ⟨w, [(r, oi2)]⟩ w2' [rowSs u5 (selN us n done), bx] := by rcases hw1 with rfl | rfl; exact hO; exact hO.drew
      have hO2 : Own ⟨w, [(r, oi')]⟩ (setBlock w2' r oi') [rowSs u5 (selN us n done), bx] := by
        have := hO1.setB (hr _) oi'
        simpa [upd] using this
      obtain ⟨e1, e2⟩ := hW'.entry
      have hent := hen _ e1 e2
      have hl2 := hW'.left_eq
      have hmeas : (l1 ++ l2).length < leftG wr bu r := by rw [hle]; simp
      have hsn := selN_snoc us n done p
      obtain ⟨hpn, hpv⟩ := H.out.units.mem HD.out hp
      generalize hw2 : setBlock w2' r oi' = w2 at *
      obtain ⟨fa, fc, hf, _, _⟩ := Own.sized (h := (show Own ⟨w, [(r, oi')]⟩ w2 (⟨9, 1, u5, (selN us n done).length, strs (selN us n done)⟩ :: [bx]) from hO2))
      have hf' : u5 = .slice fa (selN us n done).length fc := hf
      clear hf
      subst hf'
      have HWn := Lib.hid hW'
      have Hpv := Lib.hid hpv
      have HO2 := Lib.hid hO2
      have HM := Lib.hid hmeas
      have Hsn := Lib.hid hsn
      have honep := Lib.hid hpv.one
      have hcsp : (Tryz.prog.info? 63).map (·.size) = some p.cells.length := info_uv
      have h8p := Lib.hid (show (8 : Nat) = p.cells.length from rfl)
      have D3 := Lib.hid (show p.cells[3]? = some p.v3 from rfl)
      clear hO hO1 hO2 hW hW' hle hperm e1 e2 hen hl2 hsn hmeas hdone hw1 hw2 hpv
      have Hll := Lib.hid hll
      clear hll
      unfold UV.val at hent hnx
      generalize hls : selN us n done = ls at *
      have Hls := Lib.hid hls
      clear hls
      generalize hpnb : toB p.name = pn at hent hnx
      have Hpn := Lib.hid hpnb
      clear hpnb
      generalize hpc : p.cells = pcs at *
      go_upto_region 6 with (refine wpList_store_new rfl 63 (.tmp 8) (.tmp 24) rfl HO2.out pcs w2.heap.size rfl rfl rfl h8p.out hcsp honep.out ?_)
      intro w3 hO3 _
      have d3 : w3.cell? ⟨w2.heap.size, 3, none⟩ = some p.v3 := by
        rw [hO3.cell 3 (by rw [← h8p.out]; decide)]; exact D3.out
      have hbx3 : Own ⟨w, [(r, oi')]⟩ w3 (⟨63, cs.length, .slice (some ⟨w.heap.size, 0, none⟩) 1 1, 1, cs⟩ :: [rowSs (.slice fa ls.length fc) ls]) := by
        have := hO3.tail.swap
        rwa [← HBX.out] at this
      have c2 : w3.cell? ⟨w.heap.size, 2, none⟩ = some x.v2 := by
        rw [hbx3.cell 2 (by rw [← h8.out]; decide)]; exact H2.out
      have c4 : w3.cell? ⟨w.heap.size, 4, none⟩ = some x.v4 := by
        rw [hbx3.cell 4 (by rw [← h8.out]; decide)]; exact H4.out
      have hB3 : Below w.heap.size w w3 := hO3.below
      have K1 := Lib.hid (contains_any x.v2 _ p.name w3 (HX.out.later hB3).s2)
      have K2 := Lib.hid (contains_any x.v4 _ p.name w3 (HX.out.later hB3).s4)
      have K3 := Lib.hid (contains_any p.v3 _ n w3 (Hpv.out.later hB3).s3)
      rw [Hpn.out] at K1 K2
      rw [HNB.out] at K3
      have hW3 : GW w r bu xs oi' o2 (done ++ [p]) (l1 ++ l2) w3 := ⟨hO3.at (List.mem_cons_self ..), HWn.out.2.1, HWn.out.2.2.1, HWn.out.2.2.2.1, hB3, HWn.out.2.2.2.2.2⟩
      have HNO := Lib.hid (fun (hf : standU us n (findU us p.name) = false) => (show AhRel w bu xs us n r bx (.slice fa ls.length fc) w3 ∧ leftG w3 bu r < leftG wr bu r from ⟨⟨oi', o2, _, _, hW3, by
        have := Hsn.out
        rw [hf] at this
        rw [this]; simpa using hO3.tail⟩, by rw [hW3.left_eq]; exact HM.out⟩))
      have HYES := Lib.hid (fun (hf : standU us n (findU us p.name) = true) (v4 : Value) (w4 : World) (hO4 : Own ⟨w, [(r, oi')]⟩ w4 (⟨9, 1, v4, ls.length + 1, strs ls ++ [.string pn]⟩ :: [bx])) => (show AhRel w bu xs us n r bx v4 w4 ∧ leftG w4 bu r < leftG wr bu r from by
        have hW4 : GW w r bu xs oi' o2 (done ++ [p]) (l1 ++ l2) w4 := ⟨hO4.at (List.mem_cons_self ..), HWn.out.2.1, HWn.out.2.2.1, HWn.out.2.2.2.1, hO4.below, HWn.out.2.2.2.2.2⟩
        refine ⟨⟨oi', o2, _, _, hW4, ?_⟩, by rw [hW4.left_eq]; exact HM.out⟩
        have := Hsn.out
        rw [hf] at this
        rw [this]
        show Own _ w4 (⟨9, 1, v4, (ls ++ [p.name]).length, strs (ls ++ [p.name])⟩ :: [bx])
        rw [List.length_append, show strs (ls ++ [p.name]) = strs ls ++ [.string pn] from by rw [← Hpn.out]; simp [strs]]
        exact hO4))
      have HST := Lib.hid (show standU us n (findU us p.name) = (decide (p.name ∈ (findU us n).af) || decide (p.name ∈ (findU us n).re) || decide (n ∈ (findU us p.name).be)) from by
        unfold standU; rw [(findU_of HD.out hpn).2])
      have HO4 := Lib.hid (show Own ⟨w, [(r, oi')]⟩ (w3.alloc (.cells #[.string pn] 9)) (⟨9, 1, .slice fa ls.length fc, ls.length, strs ls⟩ :: [bx]) from hO3.tail.alloc _)
      have Hsrc := Lib.hid (src_one w3 (.string pn) 9 rfl)
      have Hb1 := Lib.hid (show ls.length + 1 ≤ maxLen from by have := Hll.out; unfold maxLen; omega)
      have Hb2 := Lib.hid (show (ls.length + 1) * 16 ≤ 140737488355328 from by have := Hll.out; omega)
      clear hO3 hbx3 hB3 hW3 hent hnx
      generalize decide (p.name ∈ (findU us n).af) = b1 at *
      generalize decide (p.name ∈ (findU us n).re) = b2 at *
      generalize decide (n ∈ (findU us p.name).be) = b3 at *
      generalize x.v2 = xv2 at *
      generalize x.v4 = xv4 at *
      generalize p.v3 = pv3 at *
      cases b1 with
      | true =>
        have HYES := Lib.hid (HYES.out (by rw [HST.out]; rfl))
        go_wp2_with (first
          | (at_builtin; refine wpList_append_src rfl (.tmp 41) (.tmp 43) 32 rfl (.slice fa ls.length fc) ls.length (strs ls) (.slice (some ⟨w3.heap.size, 0, none⟩) 1 1) 1 [.string pn] rfl rfl HO4.out i0 (.string ⟨#[]⟩) 16 Tryz.underlying32 hi hz0 hz1 hz2 rfl (by decide) Hsrc.out (by simp) Hb1.out Hb2.out ?_)
          | (go_at_call 87; refine K1.out.mono ?_; rintro e w9 ⟨rfl, rfl⟩; have G1 := Lib.hid True.intro))
        intro v4 w4 hO4
        have HR := Lib.hid (HYES.out v4 w4 hO4)
        obtain ⟨a4, c4, hv4, _, _⟩ := Own.sized (h := hO4)
        subst hv4
        clear hO4
        go_wp2_with fail
        go_roundw
        case rel => exact HR.out.1
        case measure => exact HR.out.2
      | false =>
        cases b2 with
        | true =>
        have HYES := Lib.hid (HYES.out (by rw [HST.out]; rfl))
        go_wp2_with (first
          | (at_builtin; refine wpList_append_src rfl (.tmp 41) (.tmp 43) 32 rfl (.slice fa ls.length fc) ls.length (strs ls) (.slice (some ⟨w3.heap.size, 0, none⟩) 1 1) 1 [.string pn] rfl rfl HO4.out i0 (.string ⟨#[]⟩) 16 Tryz.underlying32 hi hz0 hz1 hz2 rfl (by decide) Hsrc.out (by simp) Hb1.out Hb2.out ?_)
          | (go_at_call 87; have _g1 := G1; clear _g1; refine K2.out.mono ?_; rintro e w9 ⟨rfl, rfl⟩; have G2 := Lib.hid True.intro)
          | (go_at_call 87; refine K1.out.mono ?_; rintro e w9 ⟨rfl, rfl⟩; have G1 := Lib.hid True.intro))
        intro v4 w4 hO4
        have HR := Lib.hid (HYES.out v4 w4 hO4)
        obtain ⟨a4, c4, hv4, _, _⟩ := Own.sized (h := hO4)
        subst hv4
        clear hO4
        go_wp2_with fail
        go_roundw
        case rel => exact HR.out.1
        case measure => exact HR.out.2
        | false =>
        cases b3 with
        | true =>
        have HYES := Lib.hid (HYES.out (by rw [HST.out]; rfl))
        go_wp2_with (first
          | (at_builtin; refine wpList_append_src rfl (.tmp 41) (.tmp 43) 32 rfl (.slice fa ls.length fc) ls.length (strs ls) (.slice (some ⟨w3.heap.size, 0, none⟩) 1 1) 1 [.string pn] rfl rfl HO4.out i0 (.string ⟨#[]⟩) 16 Tryz.underlying32 hi hz0 hz1 hz2 rfl (by decide) Hsrc.out (by simp) Hb1.out Hb2.out ?_)
          | (go_at_call 87; have _g2 := G2; clear _g2; refine K3.out.mono ?_; rintro e w9 ⟨rfl, rfl⟩; have G3 := Lib.hid True.intro)
          | (go_at_call 87; have _g1 := G1; clear _g1; refine K2.out.mono ?_; rintro e w9 ⟨rfl, rfl⟩; have G2 := Lib.hid True.intro)
          | (go_at_call 87; refine K1.out.mono ?_; rintro e w9 ⟨rfl, rfl⟩; have G1 := Lib.hid True.intro))
        intro v4 w4 hO4
        have HR := Lib.hid (HYES.out v4 w4 hO4)
        obtain ⟨a4, c4, hv4, _, _⟩ := Own.sized (h := hO4)
        subst hv4
        clear hO4
        go_wp2_with fail
        go_roundw
        case rel => exact HR.out.1
        case measure => exact HR.out.2
        | false =>
        have HNO := Lib.hid (HNO.out (by rw [HST.out]; rfl))
        go_wp2_with (first
          | (go_at_call 87; have _g2 := G2; clear _g2; refine K3.out.mono ?_; rintro e w9 ⟨rfl, rfl⟩; have G3 := Lib.hid True.intro)
          | (go_at_call 87; have _g1 := G1; clear _g1; refine K2.out.mono ?_; rintro e w9 ⟨rfl, rfl⟩; have G2 := Lib.hid True.intro)
          | (go_at_call 87; refine K1.out.mono ?_; rintro e w9 ⟨rfl, rfl⟩; have G1 := Lib.hid True.intro))
        go_roundw
        case rel => exact HNO.out.1
        case measure => exact HNO.out.2
end Go.Proofs.YtkhnkidggcjfeaaGreatDoor
end
section
namespace Go.Proofs.YtkhnkidggcjfeaaGreatDoor
open Go.RowKit
open Go.ChangeMaps (setBlock)
structure BeAt (w : World) (g bb : Nat) (ks : List Nm) (beh : Nm → List Nm) : Prop where
  cell : w.cell? ⟨g, 1, none⟩ = some (.map (some bb))
  map : ∃ o mb, w.heap[bb]? = some o ∧ MapO keyN o mb ∧ (∀ n ∈ ks, ∃ v, look mb n = some v ∧ Sts w v (beh n)) ∧ (∀ n, n ∉ ks → look mb n = none)
theorem und_be : Tryz.prog.underlying 116 = some (.map 9 32) := by kernel_rfl
theorem zero_sl (w : World) : (zeroValue 32).run Tryz.prog w = .ok (.slice none 0 0) w := by
  rw [Tryz.zeroValue32]
theorem BeAt.lookup {w : World} {g bb : Nat} {ks : List Nm} {beh : Nm → List Nm} (h : BeAt w g bb ks beh) {n : Nm} : ∃ v, Sts w v (if n ∈ ks then beh n else []) ∧ ∀ w2, Below w.heap.size w w2 → (Instr.lookup 116 (.map (some bb)) (.string (toB n)) false).run Tryz.prog w2 = .ok v w2 := by
  obtain ⟨o, mb, h1, h2, h3, h4⟩ := h.map
  have hl := fun w2 (hb : Below w.heap.size w w2) => h2.lookup (P := Tryz.prog) (kindsN und_str) und_be (zero_sl w2) ((hb.block _ (lt_of_heap h1)).trans h1) n false
  by_cases hn : n ∈ ks
  · obtain ⟨v, e, hs⟩ := h3 n hn
    refine ⟨v, by rw [if_pos hn]; exact hs, fun w2 hb => ?_⟩
    rw [hl w2 hb, e]; rfl
  · refine ⟨_, by rw [if_neg hn]; exact sts_nil w, fun w2 hb => ?_⟩
    rw [hl w2 hb, h4 n hn]; rfl
theorem waits_any {w : World} {b5 : Nat} {v5 : Value} {left : List Nm} (hb : w.cell? ⟨b5, 0, none⟩ = some v5) (hs : Sts w v5 left) (x : Nm) :
    Calls Tryz.prog 88 #[.string (toB x), .pointer (some ⟨b5, 0, none⟩)] w fun e w' => e = .returned (.bool (decide (x ∈ left))) ∧ w = w' := by
  have hc := contains_any v5 left x w hs
  obtain ⟨a, n, c, rfl⟩ := hs.shape
  clear hs
  generalize decide (x ∈ left) = b at *
  go_enter Tryz.func88, Tryz.ntmps88
  go_wp2_with (go_at_call 87; refine hc.mono ?_; rintro e w' ⟨rfl, rfl⟩)
  go_ret
  exact ⟨rfl, rfl⟩
set_option maxHeartbeats 2000000 in
theorem free_any {w : World} {g bb b2 b5 b6 : Nat} {v5 : Value} {ks left : List Nm} {beh : Nm → List Nm} (h : BeAt w g bb ks beh) (h2 : w.cell? ⟨b2, 0, none⟩ = some (.pointer (some ⟨g, 0, none⟩)))
    (h6 : w.cell? ⟨b6, 0, none⟩ = some (.func (.func 88) #[] #[.pointer (some ⟨b5, 0, none⟩)])) (h5 : w.cell? ⟨b5, 0, none⟩ = some v5) (hs : Sts w v5 left) (n : Nm) (hn : n ∈ ks) :
    Calls Tryz.prog 89 #[.string (toB n), .pointer (some ⟨b2, 0, none⟩), .pointer (some ⟨b6, 0, none⟩)] w fun e w' => e = .returned (.bool (freeN beh left n)) ∧ Below w.heap.size w w' := by
  obtain ⟨v, hv, hl0⟩ := h.lookup (n := n)
  rw [if_pos hn] at hv
  have hd : Below w.heap.size w w.drew := (Below.refl _ w).drew
  have hl := hl0 w (Below.refl _ _)
  have hl' := hl0 w.drew hd
  have hc := h.cell
  have hb5 := World.block_lt_of_cell? w ⟨b5, 0, none⟩ h5
  have kc := containsF_lb 88 #[.pointer (some ⟨b5, 0, none⟩)] (fun x => decide (x ∈ left)) (enters_of Tryz.func88 (by kernel_rfl) rfl) v (beh n) w.drew (hv.later hd) (fun W y _ hb => (waits_any (w := W) (((hd.trans (hb.mono hd.size)).cell (p := ⟨b5, 0, none⟩) hb5).trans h5) (hs.later (hd.trans (hb.mono hd.size))) y).mono fun e w' ⟨e1, e2⟩ => ⟨e1, e2 ▸ Below.refl _ _⟩)
  obtain ⟨a, m, c, rfl⟩ := hv.shape
  have HE := Lib.hid (show freeN beh left n = !((beh n).any fun x => decide (x ∈ left)) from rfl)
  have HD := Lib.hid hd
  clear hl0 h hv hs h5 hb5 hd
  generalize (beh n).any (fun x => decide (x ∈ left)) = r at *
  generalize toB n = nb at *
  go_enter Tryz.func89, Tryz.ntmps89
  go_upto_region 1 with fail
  go_still_tail 7, (by kernel_rfl)
  go_wp2_with (go_at_call 54; refine kc.mono ?_; rintro e w' ⟨rfl, hb⟩)
  go_ret
  exact ⟨by rw [HE.out]; rfl, HD.out.trans (hb.mono HD.out.size)⟩
end Go.Proofs.YtkhnkidggcjfeaaGreatDoor
end
section
namespace Go.Proofs.YtkhnkidggcjfeaaGreatDoor
open Go.RowKit
open Go.ChangeMaps (setBlock)
theorem run_store_func {P : Program} {w : World} {a : Addr} {m : Mode} (f : Fn) (bd lb : Array Value) : (store a (.func f bd lb) m).run P w = stored P w a (.func f bd lb) m := run_store P w a _ m rfl
attribute [local go_sem] run_store_func
theorem run_load_at {P : Program} {w : World} {a : Addr} {v : Value} (h : w.cell? a = some v) : (load a).run P w = .ok v w := by
  simp [load, Sem.run, h]
theorem ret_tmp_cell1 {P : Program} {fn : Func} {p q : Tmp} {ty : TypeId} (h : fn.results = #[.tmp p, .cell q ty]) {tmps : Array Value} {w : World} {b : Nat} {v x : Value} (hp : tmps.getD p undef = x) (hq : tmps.getD q undef = .pointer (some ⟨b, 0, none⟩))
    (hr : w.cell? ⟨b, 0, none⟩ = some v) (ha : (isAgg ty).run P w = .ok false w) : (results fn tmps).run P w = .ok (.tuple #[x, v]) w := by
  have e : (asAddr (.pointer (some ⟨b, 0, none⟩))).run P w = .ok ⟨b, 0, none⟩ w := rfl
  have hp' : tmps[p]?.getD undef = x := by simpa using hp
  have hq' : tmps[q]?.getD undef = .pointer (some ⟨b, 0, none⟩) := by simpa using hq
  have hl : (loadVar ty ⟨b, 0, none⟩).run P w = .ok v w := by
    unfold loadVar
    simp [Sem.run_bind, ha, Result.andThen, run_load_at hr]
  simp only [results, h]
  simp [Sem.run_bind, Result.andThen, hp', hq', e, hl]
abbrev rowV1 (T b : Nat) (v : Value) : Rw := ⟨T, 1, .slice (some ⟨b, 0, none⟩) 1 1, 1, [v]⟩
def lenV : Value → Nat
  | .slice _ n _ => n
  | _ => 0
theorem placeN_none {beh : Nm → List Nm} {f : Nat} {ord left : List Nm} (h : left.findIdx? (freeN beh left) = none) : placeN beh f ord left = (ord, left) := by
  cases f with
  | zero => rfl
  | succ f => rw [placeN, h]
theorem placeN_some {beh : Nm → List Nm} {ord left : List Nm} {k : Nat} (hk : k < left.length) (h : left.findIdx? (freeN beh left) = some k) : placeN beh left.length ord left = placeN beh (left.eraseIdx k).length (ord ++ [left[k]]) (left.eraseIdx k) := by
  have e : left.length = (left.eraseIdx k).length + 1 := by rw [List.length_eraseIdx, if_pos hk]; omega
  conv => lhs; rw [e, placeN, h]
  show placeN beh _ (ord ++ [left.getD k []]) _ = _
  rw [show left.getD k [] = left[k] by rw [List.getD, List.getElem?_eq_getElem hk]; rfl]
structure PlSt (W0 : Base) (L : List Rw) (beh : Nm → List Nm) (names : List Nm) (b2 g : Nat) (vf : Value) (ord left : List Nm) (v4 v5 : Value) (w : World) : Prop where
  own : Own W0 w (rowSs v4 ord :: rowSs v5 left :: rowV1 32 (b2 + 1) v5 :: rowV1 89 (b2 + 1 + 1) vf :: rowV1 59 b2 (.pointer (some ⟨g, 0, none⟩)) :: L)
  sub : ∀ x ∈ left, x ∈ names
  tot : ord.length + left.length = names.length
  goes : placeN beh left.length ord left = placeN beh names.length [] names
theorem PlSt.calls {W0 : Base} {L : List Rw} {beh : Nm → List Nm} {names ks : List Nm} {b2 g bb : Nat} {vf : Value} {ord left : List Nm} {v4 v5 : Value} {w : World} (h : PlSt W0 L beh names b2 g vf ord left v4 v5 w) (hvf : vf = .func (.func 88) #[] #[.pointer (some ⟨b2 + 1, 0, none⟩)])
    (hbe : ∀ w', Own W0 w' L → BeAt w' g bb ks beh) (hks : ∀ x ∈ names, x ∈ ks) :
    Calls Tryz.prog 49 #[v5, .func (.func 89) #[] #[.pointer (some ⟨b2, 0, none⟩), .pointer (some ⟨b2 + 1 + 1, 0, none⟩)]] w fun e w' => e = .returned (.int .i64 (idxF (freeN beh left) left)) ∧ PlSt W0 L beh names b2 g vf ord left v4 v5 w' := by
  have hO := h.own
  have c5 : w.cell? ⟨b2 + 1, 0, none⟩ = some v5 := hO.third.cell 0 (by decide)
  have c6 : w.cell? ⟨b2 + 1 + 1, 0, none⟩ = some vf := hO.fourth.cell 0 (by decide)
  have c2 : w.cell? ⟨b2, 0, none⟩ = some (.pointer (some ⟨g, 0, none⟩)) := hO.fifth.cell 0 (by decide)
  have hs := hO.swap.sts
  have hL : Own W0 w L := hO.tail.tail.tail.tail.tail
  refine (index_lb 89 #[.pointer (some ⟨b2, 0, none⟩), .pointer (some ⟨b2 + 1 + 1, 0, none⟩)] (freeN beh left) (enters_of Tryz.func89 (by kernel_rfl) rfl) v5 left w hs (fun W x hx hb => ?_)).mono ?_
  · have l2 := World.block_lt_of_cell? w ⟨b2, 0, none⟩ c2
    have l5 := World.block_lt_of_cell? w ⟨b2 + 1, 0, none⟩ c5
    have l6 := World.block_lt_of_cell? w ⟨b2 + 1 + 1, 0, none⟩ c6
    exact free_any (hbe W (hL.later hb)) ((hb.cell (p := ⟨b2, 0, none⟩) l2).trans c2) ((hb.cell (p := ⟨b2 + 1 + 1, 0, none⟩) l6).trans (hvf ▸ c6)) ((hb.cell (p := ⟨b2 + 1, 0, none⟩) l5).trans c5) (hs.later hb) x (hks x (h.sub x hx))
  · rintro e w' ⟨rfl, hb⟩
    exact ⟨rfl, hO.later hb, h.sub, h.tot, h.goes⟩
set_option maxHeartbeats 4000000 in
theorem placeG_any {W0 : Base} {w : World} {L : List Rw} {g bb : Nat} {ks names : List Nm} {beh : Nm → List Nm} {v : Value} (h : Own W0 w (rowSs v names :: L)) (hbe : ∀ w', Own W0 w' L → BeAt w' g bb ks beh) (hks : ∀ x ∈ names, x ∈ ks) (hlen : names.length ≤ 1000) :
    Calls Tryz.prog 52 #[.pointer (some ⟨g, 0, none⟩), v] w fun e w' => ∃ v1 v2, e = .returned (.tuple #[v1, v2]) ∧ Own W0 w' (rowSs v1 (placeN beh names.length [] names).1 :: rowSs v2 (placeN beh names.length [] names).2 :: L) := by
  obtain ⟨i0, hi, hz0, hz1, hz2⟩ := infoS_ex
  obtain ⟨a, m, c, rfl⟩ := h.sts.shape
  have O1 := h.made_at 59 1 #[.pointer (some ⟨g, 0, none⟩)] 1 w.heap.size rfl rfl (by unfold maxLen; decide)
  have O2 := O1.made_at 32 1 #[.slice a m c] 1 (w.heap.size + 1) (by simp) rfl (by unfold maxLen; decide)
  have O3 := O2.made_at 89 1 #[(.func (.func 88) #[] #[.pointer (some ⟨w.heap.size + 1, 0, none⟩)])] 1 (w.heap.size + 1 + 1) (by simp) rfl (by unfold maxLen; decide)
  obtain ⟨W3, hW3⟩ : ∃ W3, W3 = (((w.alloc (.cells #[.pointer (some ⟨g, 0, none⟩)] 59)).alloc (.cells #[.slice a m c] 32)).alloc (.cells #[(.func (.func 88) #[] #[.pointer (some ⟨w.heap.size + 1, 0, none⟩)])] 89)) := ⟨_, rfl⟩
  rw [← hW3] at O3
  have hst : PlSt W0 L beh names w.heap.size g (.func (.func 88) #[] #[.pointer (some ⟨w.heap.size + 1, 0, none⟩)]) [] names (.slice none 0 0) (.slice a m c) W3 := by
    refine ⟨Own.nil (O3.fourth.perm ((List.Perm.swap _ _ _).cons _)) 9 1, fun x hx => hx, by simp, rfl⟩
  have HST := Lib.hid hst
  have HW3 := Lib.hid hW3
  have HBE := Lib.hid hbe
  have HKS := Lib.hid hks
  clear O1 O2 O3 hst h hW3 hbe hks
  go_enter Tryz.func52, Tryz.ntmps52
  go_upto_region 4 with fail
  rw [← HW3.out]
  have k0 := HST.out.calls rfl HBE.out HKS.out
  have c5 : W3.cell? ⟨w.heap.size + 1, 0, none⟩ = some (.slice a m c) := HST.out.own.third.cell 0 (by decide)
  clear HW3
  generalize hvf : Value.func (.func 88) #[] #[.pointer (some ⟨w.heap.size + 1, 0, none⟩)] = vf at k0 HST
  have HVF := Lib.hid hvf.symm
  clear hvf
  generalize w.heap.size = b2 at *
  go_wp2_with (go_at_call 49; refine k0.mono ?_; rintro e w4 ⟨rfl, hP⟩; have HP := Lib.hid hP; clear hP c5)
  go_loopw [4, 8] (fun s4 s8 wr => ∃ ord left v5, PlSt W0 L beh names b2 g vf ord left s4 v5 wr ∧ s8 = .int .i64 (idxF (freeN beh left) left)) (fun s4 _ _ => names.length - lenV s4)
  case atStart => exact ⟨_, _, _, HP.out, rfl⟩
  case round =>
    obtain ⟨ord, left, v5, hP, rfl⟩ := hrel
    have hO := hP.own
    have c5 : wr.cell? ⟨b2 + 1, 0, none⟩ = some v5 := hO.third.cell 0 (by decide)
    have f5 : wr.frozen? ⟨b2 + 1, 0, none⟩ = false := hO.third.free 0
    obtain ⟨a4, n4, c4, hv4⟩ := hO.sts.shape
    subst hv4
    rcases idxF_cases (freeN beh left) left with ⟨e1, e2, e3⟩ | ⟨k, hk, e1, e2, e3, _⟩
    · rw [e2]
      have hg := hP.goes
      rw [placeN_none e1] at hg
      obtain ⟨a5, n5, c5', hv5⟩ := hO.swap.sts.shape
      subst hv5
      have HO := Lib.hid hO
      have HG := Lib.hid hg
      clear hP hO hg e1 e2 e3
      go_wp2_with fail
      go_region
      have hO9 := (HO.out.third.set 0 (.slice a5 n5 c5')).drew
      have cR : (wr.setCell ⟨b2 + 1, 0, none⟩ (.slice a5 n5 c5')).drew.cell? ⟨b2 + 1, 0, none⟩ = some (.slice a5 n5 c5') := hO9.cell 0 (by decide)
      have HO9 := Lib.hid hO9
      clear hO9 c5 f5
      generalize (wr.setCell ⟨b2 + 1, 0, none⟩ (.slice a5 n5 c5')).drew = w9 at *
      go_wp2_with fail
      refine bodyPost_ret (v := .tuple #[.slice a4 n4 c4, .slice a5 n5 c5']) (ret_tmp_cell1 Tryz.results52 rfl rfl cR (Tryz.isAgg32 _)) rfl ?_
      refine ⟨_, _, rfl, ?_⟩
      rw [← HG.out]
      have h1 := HO9.out.tail
      have h2 : Own W0 w9 (rowV1 89 (b2 + 1 + 1) vf :: rowV1 59 b2 (.pointer (some ⟨g, 0, none⟩)) :: rowSs (.slice a4 n4 c4) ord :: rowSs (.slice a5 n5 c5') left :: L) := h1.perm (by
        have e1 := (List.Perm.swap (rowV1 89 (b2 + 1 + 1) vf) (rowSs (.slice a5 n5 c5') left) (rowV1 59 b2 (.pointer (some ⟨g, 0, none⟩)) :: L)).cons (rowSs (.slice a4 n4 c4) ord)
        have e2 := List.Perm.swap (rowV1 89 (b2 + 1 + 1) vf) (rowSs (.slice a4 n4 c4) ord) (rowSs (.slice a5 n5 c5') left :: rowV1 59 b2 (.pointer (some ⟨g, 0, none⟩)) :: L)
        have e3 := ((List.Perm.swap (rowV1 59 b2 (.pointer (some ⟨g, 0, none⟩))) (rowSs (.slice a5 n5 c5') left) L).cons (rowSs (.slice a4 n4 c4) ord)).cons (rowV1 89 (b2 + 1 + 1) vf)
        have e4 := (List.Perm.swap (rowV1 59 b2 (.pointer (some ⟨g, 0, none⟩))) (rowSs (.slice a4 n4 c4) ord) (rowSs (.slice a5 n5 c5') left :: L)).cons (rowV1 89 (b2 + 1 + 1) vf)
        exact e1.trans (e2.trans (e3.trans e4)))
      exact h2.tail.tail
    · rw [e2]
      have hnk : 0 ≤ (k : Int) := by omega
      obtain ⟨g5, c5', hv5, hg1, hg2, hg3, hg4⟩ := hO.swap.form (by omega)
      subst hv5
      have ck : wr.cell? ⟨g5, k, none⟩ = some (.string (toB left[k])) := Own.str hO.swap k hk
      have hlt : (k : Int) < (left.length : Int) := by omega
      have hgo := hP.goes
      rw [placeN_some hk e1] at hgo
      have HP := Lib.hid hP
      have HGO := Lib.hid hgo
      have htot := hP.tot
      have HO4 := Lib.hid (hO.alloc (.cells #[.string (toB left[k])] 9))
      have Hsrc := Lib.hid (src_one wr (.string (toB left[k])) 9 rfl)
      have Hb1 := Lib.hid (show ord.length + 1 ≤ maxLen from by unfold maxLen; omega)
      have Hb2 := Lib.hid (show (ord.length + 1) * 16 ≤ 140737488355328 from by omega)
      have Hk := Lib.hid hk
      have Htot := Lib.hid htot
      generalize hx : left[k] = x at *
      have Hx := Lib.hid hx
      obtain ⟨nl, hnl⟩ : ∃ nl, left.length = nl := ⟨_, rfl⟩
      rw [hnl] at hlt c5
      have hn1 : (nl : Int) ≤ 1000 := by omega
      have Hnl := Lib.hid hnl
      clear hP hO hgo htot e1 e2 e3 hx hnl hg1 hg2 hg3 hg4 hk
      go_wp2_with (at_builtin; refine wpList_append_src rfl (.tmp 20) (.tmp 25) 32 rfl (.slice a4 n4 c4) ord.length (strs ord) (.slice (some ⟨wr.heap.size, 0, none⟩) 1 1) 1 [.string (toB x)] rfl rfl HO4.out i0 (.string ⟨#[]⟩) 16 Tryz.underlying32 hi hz0 hz1 hz2 rfl (by decide) Hsrc.out (by simp) Hb1.out Hb2.out ?_)
      intro v4 w4 hO5
      have hO6 : Own W0 w4 (rowSs v4 (ord ++ [x]) :: rowSs (.slice (some ⟨g5, 0, none⟩) left.length c5') left :: rowV1 32 (b2 + 1) (.slice (some ⟨g5, 0, none⟩) left.length c5') :: rowV1 89 (b2 + 1 + 1) vf :: rowV1 59 b2 (.pointer (some ⟨g, 0, none⟩)) :: L) := by
        show Own W0 w4 (⟨9, 1, v4, (ord ++ [x]).length, strs (ord ++ [x])⟩ :: _)
        rw [List.length_append, show strs (ord ++ [x]) = strs ord ++ [.string (toB x)] from by simp [strs]]
        exact hO5
      have c5 : w4.cell? ⟨b2 + 1, 0, none⟩ = some (.slice (some ⟨g5, 0, none⟩) left.length c5') := hO6.third.cell 0 (by decide)
      have kd := delS_row hO6.swap k Hk.out (by have := Htot.out; omega)
      rw [Hnl.out] at c5 kd
      obtain ⟨a6, n6, c6, hv6⟩ := hO6.sts.shape
      subst hv6
      clear hO5 hO6
      go_wp2_with (go_at_call 90; refine kd.mono ?_; rintro e w7 ⟨v7, rfl, hO7⟩; obtain ⟨a7, n7, c7, hv7⟩ := hO7.sts.shape; subst hv7; have c57 : w7.cell? ⟨b2 + 1, 0, none⟩ = _ := hO7.third.cell 0 (by decide); have f57 : w7.frozen? ⟨b2 + 1, 0, none⟩ = false := hO7.third.free 0; have HO7 := Lib.hid hO7; clear hO7)
      have hP2 : PlSt W0 L beh names b2 g vf (ord ++ [x]) (left.eraseIdx k) (.slice a6 n6 c6) (.slice a7 n7 c7) (w7.setCell ⟨b2 + 1, 0, none⟩ (.slice a7 n7 c7)) := by
        have hel : (left.eraseIdx k).length = left.length - 1 := by rw [List.length_eraseIdx, if_pos Hk.out]
        have hll := Hk.out
        have htt := Htot.out
        refine ⟨(HO7.out.third.set 0 (.slice a7 n7 c7)).perm (List.Perm.trans (List.Perm.swap _ _ _) ((List.Perm.swap _ _ _).cons _) |>.trans (List.Perm.swap _ _ _)), fun y hy => HP.out.sub y (List.mem_of_mem_eraseIdx hy), by rw [hel, List.length_append]; simp; omega, HGO.out⟩
      have hlen6 : n6 = (ord ++ [x]).length := by
        obtain ⟨a', c', e', _⟩ := hP2.own.sts
        injection e'
      have HM := Lib.hid (show names.length - lenV (.slice a6 n6 c6) < names.length - lenV (.slice a4 n4 c4) from by
        have e4 : n4 = ord.length := by
          obtain ⟨a', c', e', _⟩ := HP.out.own.sts
          injection e'
        have hll := Hk.out
        have htt := Htot.out
        simp only [lenV]
        rw [hlen6, e4, List.length_append]
        simp; omega)
      clear hlen6 c57 f57
      refine (hP2.calls HVF.out HBE.out HKS.out).mono ?_
      rintro e w8 ⟨rfl, hP3⟩
      have HP3 := Lib.hid hP3
      clear hP2 hP3
      go_wp2_with fail
      go_roundw
      case rel => exact ⟨_, _, _, HP3.out, rfl⟩
      case measure => exact HM.out
end Go.Proofs.YtkhnkidggcjfeaaGreatDoor
end
section
namespace Go.Proofs.YtkhnkidggcjfeaaGreatDoor
open Go.RowKit Go.Maps Go.Shelf
open Go.ChangeMaps (setBlock)
open Go.WideElems (Fit rd rg)
abbrev noRG : Value → Option (DataW Unit × List MemPlace) := fun _ => some (.nil, [])
def sOfG (v : Value) : List UInt8 := match v with
  | .string s => s.data.toList
  | _ => []
theorem owns_ofG {w : World} {b : Nat} {o : Obj} {ents : List (Nm × Value)} (h : MapO keyN o ents) (hb : w.heap[b]? = some o) (hd : (ents.map (·.1)).Nodup) (hs : ∀ p ∈ ents, p.1.length ≤ maxLen) (hn : ents.length ≤ maxLen) :
    ∃ D0 : DataW Unit, w.ownsMap Tryz.prog 9 noRG b ents.length D0 ∧ (strKeys D0).Perm (ents.map (·.1)) ∧ Maps.size D0 = ents.length := by
  obtain ⟨es, clock, rfl, h1, h2, h3⟩ := h
  have hk : es.toList.map (·.key) = ents.map fun p => keyN p.1 := by
    have := congrArg (List.map (·.1)) h1
    rw [List.map_map, List.map_map] at this
    rw [show es.toList.map (·.key) = es.toList.map ((fun p : Value × Value => p.1) ∘ fun e => (e.key, e.val)) from rfl, this]
    rfl
  have hsz : es.size = ents.length := by
    have := congrArg List.length hk
    simpa using this
  have hkey : ∀ x ∈ es.toList, ∃ s : ByteArray, x.key = .string s ∧ s.size ≤ maxLen := fun x hx => by
    have : x.key ∈ ents.map fun p => keyN p.1 := by rw [← hk]; exact List.mem_map.2 ⟨x, hx, rfl⟩
    obtain ⟨p, hp, e⟩ := List.mem_map.1 this
    exact ⟨toB p.1, e.symm, by rw [toB_size]; exact hs p hp⟩
  have hrd : ∀ x ∈ es.toList, rd Tryz.prog 9 noRG x = some (.string (sOfG x.key), .nil) := fun x hx => by
    obtain ⟨s, e, hs⟩ := hkey x hx
    unfold rd
    rw [e, Go.WideMaps.keyOf_string_mk Tryz.underlying9 hs]; rfl
  refine ⟨_, ⟨es, clock, hb, ⟨by omega, ⟨h3, h2, ?_⟩, fun x hx => ⟨_, hrd x hx⟩⟩, by omega, rfl⟩, ?_, ?_⟩
  · rw [hk]
    have : (ents.map fun p => keyN p.1) = (ents.map (·.1)).map keyN := by rw [List.map_map]; rfl
    rw [this]
    exact hd.map (f := keyN) (fun a b hne e => hne (by injection e with e; exact toB_inj e))
  · have hp := (Go.WideShapes.sorted_perm (es.toList.map (rg Tryz.prog 9 noRG))).map (fun p => strOf p.1)
    refine List.Perm.trans hp ?_
    rw [List.map_map]
    have e1 : es.toList.map ((fun p : Lit × DataW Unit => strOf p.1) ∘ rg Tryz.prog 9 noRG) = es.toList.map fun x => sOfG x.key := List.map_congr_left fun x hx => by
      simp only [Function.comp, rg, hrd x hx]; rfl
    rw [e1, show (es.toList.map fun x => sOfG x.key) = (es.toList.map (·.key)).map sOfG by rw [List.map_map]; rfl, hk, List.map_map]
    have e2 : (sOfG ∘ fun p : Nm × Value => keyN p.1) = fun p : Nm × Value => p.1 := by
      funext p
      rfl
    rw [e2]
  · rw [Maps.size_eq, Go.length_sorted, List.length_map]
    simpa using hsz
theorem Own.ofRow {w w' : World} {v : Value} {ls : List Nm} (h : w'.ownsRow w.heap.size 9 1 v ls.length (strs ls)) (hb : Below w.heap.size w w') : Own w w' [rowSs v ls] :=
  ⟨hb, (fun p hp => by rw [List.mem_singleton.1 hp]; exact h), List.pairwise_singleton .., (fun m hm => by cases hm), (fun m hm => by cases hm)⟩
set_option maxHeartbeats 2000000 in
theorem names_any {w : World} {g bu : Nat} {xs : List UV} {us : List GU} (h : UsAt w g bu xs us) (hd : (namesU us).Nodup) (hlen : us.length ≤ 1000) (hs : ∀ n ∈ namesU us, n.length ≤ 1000000) :
    Calls Tryz.prog 48 #[.pointer (some ⟨g, 0, none⟩)] w fun e w' => ∃ v, e = .returned v ∧ Own w w' [rowSs v (sortN (namesU us))] := by
  have hc := h.cell
  obtain ⟨o, h1, h2⟩ := h.map
  have hk : (entsU xs).map (·.1) = namesU us := by rw [← h.units.names]; unfold entsU; rw [List.map_map]; rfl
  have hel : (entsU xs).length = us.length := by unfold entsU; rw [List.length_map]; exact h.units.len
  obtain ⟨D0, hown, hperm, hsz0⟩ := owns_ofG h2 h1 (by rw [hk]; exact hd) (fun p hp => by
    have := hs p.1 (by rw [← hk]; exact List.mem_map.2 ⟨p, hp, rfl⟩)
    unfold maxLen; omega) (by rw [hel]; unfold maxLen; omega)
  have hml : us.length ≤ maxLen := by unfold maxLen; omega
  have hby : us.length * 16 ≤ 140737488355328 := by omega
  rw [hel] at hown hsz0
  rw [hk] at hperm
  clear h h1 h2 hk hel hs
  refine (callsIn_wide (n := 6)).1 ?_
  have hfK : Fence.wide.fn 85 := trivial
  have hfS : Fence.wide.fn 84 := trivial
  refine callsIn_of_wp Tryz.func48 rfl trivial ?_ rfl
  simp only [Tryz.ntmps48, List.size_toArray, List.length_cons, List.length_nil, Nat.reduceAdd, Nat.reduceSub, Array.replicate_succ, Array.replicate_zero, List.push_toArray, List.append_toArray, List.nil_append, List.cons_append]
  gi_wp2_with (first
    | (gi_at_call 85; refine (Tryz.maps_Keys_85 _ _).mono ?_; rintro e w' ⟨rfl, rfl⟩)
    | (gi_at_call 84; refine (Tryz.slices_Sorted_keys_84_85 bu us.length D0 noRG w hown (by rw [hsz0]; exact hml) (by rw [hsz0]; exact hby)).mono ?_; rintro e w' ⟨v, ss, rfl, hS, hrow, hnil, hb⟩))
  have hle : w.heap.size ≤ (w.alloc (.cells #[.map (some bu)] 115)).heap.size := by simp
  have hss : sortN ss = sortN (namesU us) := sortN_eq (hS.trans hperm)
  rw [merge_sortN, hss] at hrow
  have hll : ss.length = (sortN (namesU us)).length := by rw [sortN_length]; exact (hS.trans hperm).length_eq
  rw [hll] at hrow
  go_ret
  exact ⟨v, rfl, Own.ofRow (ownsRow_base hrow hle) (((Below.refl _ _).alloc (Nat.le_refl _) _).trans (hb.mono hle))⟩
end Go.Proofs.YtkhnkidggcjfeaaGreatDoor
end
section
namespace Go.Proofs.YtkhnkidggcjfeaaGreatDoor
open Go.RowKit
open Go.ChangeMaps (setBlock)
structure GAt (w : World) (g : Nat) (us : List GU) (ord : List Nm) : Prop where
  uni : ∃ bu xs, UsAt w g bu xs us
  beh : ∃ bb, BeAt w g bb (namesU us) (aheadU us)
  at2 : ∃ vo, w.cell? ⟨g, 2, none⟩ = some vo ∧ Sts w vo ord
  once : (namesU us).Nodup
  few : us.length ≤ 1000
  short : ∀ n ∈ namesU us, n.length ≤ 1000000
  bnd : ∀ u ∈ us, Bnd u
  olen : ord.length ≤ 1000
  perm : ord.Perm (namesU us)
  req : ∀ u ∈ us, ∀ y, (y ∈ u.re ∨ y ∈ u.pa) → y ∈ namesU us
def pick (ord som : List Nm) : List Nm := ord.filter fun n => decide (n ∈ som)
end Go.Proofs.YtkhnkidggcjfeaaGreatDoor
end
section
namespace Go.Proofs.YtkhnkidggcjfeaaGreatDoor
open Go.RowKit
open Go.ChangeMaps (setBlock)
structure LnInv (us : List GU) (som l : List Nm) (k : Nat) : Prop where
  once : l.Nodup
  sub : ∀ x ∈ l, LeanR us som x
  base : ∀ n ∈ namesU us, n ∈ som → n ∈ l
  cl : ∀ j (hj : j < l.length), j < k → ∀ u ∈ us, (l[j] ∈ u.re ∨ l[j] ∈ u.pa) → u.name ∈ l
def LeRel (w : World) (bu : Nat) (xs : List UV) (us : List GU) (som : List Nm) (r k : Nat) (x : Nm) (v : Value) (wr : World) : Prop :=
  ∃ oi o done left l, GW w r bu xs oi o done left wr ∧ Own ⟨w, [(r, oi)]⟩ wr [rowSs v l] ∧ LnInv us som l k ∧ l[k]? = some x ∧ ∀ p ∈ done, (x ∈ (findU us p.name).re ∨ x ∈ (findU us p.name).pa) → p.name ∈ l
end Go.Proofs.YtkhnkidggcjfeaaGreatDoor
end
section
namespace Go.Proofs.YtkhnkidggcjfeaaGreatDoor
open Go.RowKit
open Go.ChangeMaps (setBlock)
end Go.Proofs.YtkhnkidggcjfeaaGreatDoor
end
section
namespace Go.Proofs.YtkhnkidggcjfeaaGreatDoor
open Go.RowKit
open Go.ChangeMaps (setBlock)
structure PlInv (us : List GU) (som l : List Nm) (k : Nat) : Prop where
  once : l.Nodup
  sub : ∀ x ∈ l, PullR us som x
  there : ∀ x ∈ l, x ∈ namesU us
  base : ∀ n ∈ namesU us, n ∈ som → n ∈ l
  cl : ∀ j (hj : j < l.length), j < k → ∀ y ∈ (findU us l[j]).re, y ∈ l
end Go.Proofs.YtkhnkidggcjfeaaGreatDoor
end
section
namespace Go.Proofs.YtkhnkidggcjfeaaGreatDoor
open Go.RowKit
open Go.ChangeMaps (setBlock)
def UV.nilOk (x : UV) : Prop := ∀ v ∈ [x.v1, x.v2, x.v3, x.v4, x.v5, x.v6], v = .slice none 0 0 ∨ ∃ a n c, v = .slice (some a) n c
def UArg (w : World) (v : Value) (us : List GU) : Prop := ∃ a c xs, v = .slice a us.length c ∧ Units w xs us ∧ ∀ i (h : i < xs.length), (∃ b o, a = some ⟨b, o, none⟩ ∧ w.rangeAt b (o + i * 8) xs[i].cells) ∧ xs[i].nilOk
theorem Units.at {w : World} {xs : List UV} {us : List GU} (h : Units w xs us) : ∀ (i : Nat) (hi : i < xs.length) (hi2 : i < us.length), UVIs w xs[i] us[i] := by
  induction h with
  | nil => intro i hi; exact absurd hi (Nat.not_lt_zero _)
  | cons h1 _ ih =>
    intro i hi hi2
    cases i with
    | zero => exact h1
    | succ i => exact ih i (by simpa using hi) (by simpa using hi2)
def rowsAll : List UV → List GU → List Rw
  | y :: ys, u :: us => rows6 y u ++ rowsAll ys us
  | _, _ => []
theorem rowsAll_snoc : ∀ (ys : List UV) (us : List GU) (y : UV) (u : GU), ys.length = us.length → rowsAll (ys ++ [y]) (us ++ [u]) = rowsAll ys us ++ rows6 y u := by
  intro ys
  induction ys with
  | nil => intro us y u h; cases us with | nil => simp [rowsAll] | cons a r => simp at h
  | cons a r ih =>
    intro us y u h
    cases us with
    | nil => simp at h
    | cons b s =>
      simp only [List.cons_append, rowsAll]
      rw [ih s y u (by simpa using h), List.append_assoc]
theorem Own.stsMem {W0 : Base} {w : World} {L : List Rw} {v : Value} {ls : List Nm} (h : Own W0 w L) (hm : rowSs v ls ∈ L) : Sts w v ls := by
  obtain ⟨A, B, e⟩ := List.append_of_mem hm
  rw [e] at h
  exact (h.perm List.perm_middle).sts
inductive Like : List UV → List GU → Prop
  | nil : Like [] []
  | cons {y : UV} {u : GU} {ys : List UV} {us : List GU} : y.name = u.name → y.ret = u.ret → Like ys us → Like (y :: ys) (u :: us)
theorem Like.len {ys : List UV} {us : List GU} (h : Like ys us) : ys.length = us.length := by
  induction h with
  | nil => rfl
  | cons _ _ _ ih => simp [ih]
theorem Like.snoc {ys : List UV} {us : List GU} (h : Like ys us) {y : UV} {u : GU} (h1 : y.name = u.name) (h2 : y.ret = u.ret) : Like (ys ++ [y]) (us ++ [u]) := by
  induction h with
  | nil => exact .cons h1 h2 .nil
  | cons a b _ ih => exact .cons a b ih
theorem Like.names {ys : List UV} {us : List GU} (h : Like ys us) : ys.map (·.name) = namesU us := by
  induction h with
  | nil => rfl
  | cons a _ _ ih => simp [namesU, a] at ih ⊢; exact ih
theorem Like.units {W0 : Base} {w : World} {L : List Rw} (hO : Own W0 w L) {ys : List UV} {us : List GU} (h : Like ys us) (hs : ∀ r ∈ rowsAll ys us, r ∈ L) : Units w ys us := by
  induction h with
  | nil => exact .nil
  | @cons y u ys us a b _ ih =>
    have h6 : ∀ r ∈ rows6 y u, r ∈ L := fun r hr => hs r (List.mem_append_left _ hr)
    exact .cons ⟨a, b, hO.stsMem (h6 _ (by simp [rows6])), hO.stsMem (h6 _ (by simp [rows6])), hO.stsMem (h6 _ (by simp [rows6])), hO.stsMem (h6 _ (by simp [rows6])), hO.stsMem (h6 _ (by simp [rows6])), hO.stsMem (h6 _ (by simp [rows6]))⟩ (ih fun r hr => hs r (List.mem_append_right _ hr))
theorem putG_fresh {α β : Type} [DecidableEq α] {m : List (α × β)} {a : α} (h : a ∉ m.map (·.1)) (v : β) : put m a v = m ++ [(a, v)] := by
  induction m with
  | nil => rfl
  | cons p r ih =>
    simp only [List.map_cons, List.mem_cons, not_or] at h
    unfold put
    rw [if_neg (fun e => h.1 e.symm), ih h.2]; rfl
def rowsB (us : List GU) : List Value → List Nm → List Rw
  | z :: zs, n :: ns => rowSs z (aheadU us n) :: rowsB us zs ns
  | _, _ => []
theorem rowsB_snoc (us : List GU) : ∀ (zs : List Value) (ns : List Nm) (z : Value) (n : Nm), zs.length = ns.length → rowsB us (zs ++ [z]) (ns ++ [n]) = rowsB us zs ns ++ [rowSs z (aheadU us n)] := by
  intro zs
  induction zs with
  | nil => intro ns z n h; cases ns with | nil => rfl | cons a r => simp at h
  | cons a r ih =>
    intro ns z n h
    cases ns with
    | nil => simp at h
    | cons b s =>
      simp only [List.cons_append, rowsB]
      rw [ih s z n (by simpa using h)]
def entsB (zs : List Value) (ns : List Nm) : List (Nm × Value) := ns.zip zs
theorem look_zip {ns : List Nm} {zs : List Value} (hl : zs.length = ns.length) (n : Nm) : (n ∉ ns → look (entsB zs ns) n = none) ∧ (n ∈ ns → ∃ z, look (entsB zs ns) n = some z ∧ ∀ us, rowSs z (aheadU us n) ∈ rowsB us zs ns) := by
  unfold entsB
  induction ns generalizing zs with
  | nil => exact ⟨fun _ => rfl, fun h => by cases h⟩
  | cons m r ih =>
    cases zs with
    | nil => simp at hl
    | cons z zs =>
      obtain ⟨i1, i2⟩ := ih (zs := zs) (by simpa using hl)
      by_cases hm : m = n
      · subst hm
        refine ⟨fun h => absurd (List.mem_cons_self ..) h, fun _ => ⟨z, ?_, fun us => List.mem_cons_self ..⟩⟩
        simp [List.zip, look]
      · have e : look ((m :: r).zip (z :: zs)) n = look (r.zip zs) n := by
          rw [List.zip_cons_cons]; conv => lhs; unfold look; rw [if_neg hm]
        rw [e]
        refine ⟨fun h => i1 fun h' => h (List.mem_cons_of_mem _ h'), fun h => ?_⟩
        rcases List.mem_cons.1 h with h | h
        · exact absurd h.symm hm
        · obtain ⟨z', h1, h2⟩ := i2 h
          exact ⟨z', h1, fun us => List.mem_cons_of_mem _ (h2 us)⟩
theorem entsB_snoc {zs : List Value} {ns : List Nm} (hl : zs.length = ns.length) (z : Value) (n : Nm) : entsB (zs ++ [z]) (ns ++ [n]) = entsB zs ns ++ [(n, z)] := by
  unfold entsB
  rw [List.zip_append hl.symm]; rfl
theorem entsB_keys {zs : List Value} {ns : List Nm} (hl : zs.length = ns.length) : (entsB zs ns).map (·.1) = ns := by
  show (ns.zip zs).map Prod.fst = ns
  exact List.map_fst_zip (by omega)
abbrev Blk (g bb bu : Nat) (c : Array Value) (ob ou : Obj) : Blocks := [(g, .cells c 118), (bb, ob), (bu, ou)]
theorem Blk.us {w : World} {g bb bu : Nat} {x y : Value} {ob ou : Obj} {wr : World} {L : List Rw} (h : Own ⟨w, Blk g bb bu #[.map (some bu), x, y] ob ou⟩ wr L) {ys : List UV} {us : List GU} (hl : Like ys us) (hs : ∀ r ∈ rowsAll ys us, r ∈ L) (hm : MapO keyN ou (entsU ys)) : UsAt wr g bu ys us :=
  ⟨by rw [h.cellB (b := g) (List.mem_cons_self ..)]; rfl, ⟨ou, h.at (List.mem_cons_of_mem _ (List.mem_cons_of_mem _ (List.mem_cons_self ..))), hm⟩, hl.units h hs⟩
theorem Blk.be {w : World} {g bb bu : Nat} {x y : Value} {ob ou : Obj} {wr : World} {L : List Rw} (h : Own ⟨w, Blk g bb bu #[x, .map (some bb), y] ob ou⟩ wr L) {us : List GU} {zs : List Value} {ns : List Nm} (hl : zs.length = ns.length) (hs : ∀ r ∈ rowsB us zs ns, r ∈ L) (hm : MapO keyN ob (entsB zs ns)) : BeAt wr g bb ns (aheadU us) :=
  ⟨by rw [h.cellB (b := g) (List.mem_cons_self ..)]; rfl, ob, _, h.at (List.mem_cons_of_mem _ (List.mem_cons_self ..)), hm, fun n hn => by
    obtain ⟨z, h1, h2⟩ := (look_zip hl n).2 hn
    exact ⟨z, h1, h.stsMem (hs _ (h2 us))⟩, fun n hn => (look_zip hl n).1 hn⟩
end Go.Proofs.YtkhnkidggcjfeaaGreatDoor
end
