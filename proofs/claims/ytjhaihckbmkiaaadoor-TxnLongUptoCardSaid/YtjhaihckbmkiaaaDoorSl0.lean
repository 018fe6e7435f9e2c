/- Rows of elements of any size, parts that are made and taken one by one: what serves each package that packs lists. -/
import Derived.Test.YtjhaihckbmkiaaaDoorRd1
import Derived.Deep.RegionHeld3
import Derived.Deep.LoopGhost
import Derived.Lib.Strings
namespace Go.Proofs.YtjhaihckbmkiaaaDoor
open Go.RowKit
set_option linter.unusedVariables false
set_option linter.unusedSimpArgs false
set_option maxRecDepth 100000

/-- Elements of so many cells each, one behind the other. -/
def SlcA (w : World) (a : Option Addr) (size : Nat) (xs : List (List Value)) : Prop := ∀ i (h : i < xs.length), ∃ g o, a = some ⟨g, o, none⟩ ∧ w.rangeAt g (o + i * size) xs[i]
theorem range_laterA {w w' : World} (hb : Below w.heap.size w w') {g off : Nat} {cs : List Value} (hr : w.rangeAt g off cs) : w'.rangeAt g off cs := fun j v hj => by
  have h1 := hr j v hj
  rw [hb.cell (p := ⟨g, off + j, none⟩) (World.block_lt_of_cell? w _ h1)]
  exact h1
theorem SlcA.later {w w' : World} {a : Option Addr} {size : Nat} {xs : List (List Value)} (h : SlcA w a size xs) (hb : Below w.heap.size w w') : SlcA w' a size xs := fun i hi => by
  obtain ⟨g, o, e, hr⟩ := h i hi
  exact ⟨g, o, e, range_laterA hb hr⟩
theorem empty_is (s : ByteArray) : (s.toList == []) = decide (s.data.toList = []) := by
  rw [Lib.toList_data, Bool.eq_iff_iff]; simp
theorem Own.box3 {W0 : Base} {w : World} {L : List Rw} (h : Own W0 w L) (x y z : Value) (T : TypeId) : Own W0 (w.alloc (.cells #[x, y, z] T)) (⟨T, 3, .slice (some ⟨w.heap.size, 0, none⟩) 1 1, 1, [x, y, z]⟩ :: L) :=
  h.made T 3 #[x, y, z] 1 rfl (by unfold maxLen; decide)
theorem eqS_lists {a b : ByteArray} : (a.toList == b.toList) = decide (a.data.toList = b.data.toList) := by
  rw [Lib.toList_data, Lib.toList_data, Bool.eq_iff_iff]; simp
theorem any_take_succA {α : Type} (f : α → Bool) (ls : List α) (k : Nat) (h : k < ls.length) : (ls.take (k + 1)).any f = ((ls.take k).any f || f ls[k]) := by
  rw [List.take_succ_eq_append_getElem h, List.any_append, List.any_cons, List.any_nil, Bool.or_false]
theorem any_at {α : Type} (f : α → Bool) (ls : List α) (k : Nat) (h : k < ls.length) (hf : f ls[k] = true) : ls.any f = true := List.any_eq_true.2 ⟨ls[k], List.getElem_mem _, hf⟩

theorem range_all_succ (f : Nat → Bool) (k : Nat) : (List.range (k + 1)).all f = ((List.range k).all f && f k) := by
  rw [List.range_succ, List.all_append, List.all_cons, List.all_nil, Bool.and_true]
theorem SlcA.take {w : World} {a : Option Addr} {size : Nat} {xs : List (List Value)} (h : SlcA w a size xs) (k : Nat) : SlcA w a size (xs.take k) := fun i hi => by
  obtain ⟨g, o, e, hr⟩ := h i (by rw [List.length_take] at hi; omega)
  exact ⟨g, o, e, by rw [List.getElem_take]; exact hr⟩
theorem Own.formA {W0 : Base} {w : World} {v : Value} {zs : List Int} {L : List Rw} (h : Own W0 w (rowU v zs :: L)) : ∃ a k c, v = .slice a k c := by
  obtain ⟨a, c, e, _⟩ := Own.sized (h := (show Own W0 w (⟨5, 1, v, zs.length, bs zs⟩ :: L) from h))
  exact ⟨a, _, c, e⟩
def rowPs (v : Value) (PS : List (Value × List Int)) : Rw := ⟨49, 1, v, PS.length, PS.map (·.1)⟩
/-- How far a list of parts has come. -/
def LsRel {α : Type} (w : World) (f : α → List Int) (xs : List α) (v i : Value) (wr : World) : Prop :=
  ∃ (k : Nat) (PS : List (Value × List Int)) (L1 : List Rw), i = .int .i64 k ∧ k ≤ xs.length ∧ Own w wr (rowPs v PS :: L1) ∧ (∀ p ∈ PS, rowU p.1 p.2 ∈ L1 ∧ Byts p.2) ∧ allOf PS = ((xs.take k).map f).flatten ∧ PS.length = k
theorem part_infoA : ∃ i, Tryd.prog.info? 49 = some i ∧ i.zero = some (.slice none 0 0) ∧ i.size = 1 ∧ i.bytes = 24 := by
  have h : (Tryd.prog.info? 49).map (fun i => (i.zero, i.size, i.bytes)) = some (some (.slice none 0 0), 1, 24) := by kernel_rfl
  cases hi : Tryd.prog.info? 49 with
  | none => rw [hi] at h; cases h
  | some i =>
    rw [hi] at h
    injection h with h
    injection h with h1 h2
    injection h2 with h2 h3
    exact ⟨i, rfl, h1, h2, h3⟩
theorem LsRel.step {α : Type} {w w9 : World} {f : α → List Int} {xs : List α} {k : Nat} {v9 v2 : Value} {PS : List (Value × List Int)} {L1 : List Rw} (hlt : k < xs.length) (hO : Own w w9 (⟨49, 1, v9, PS.length + 1, PS.map (·.1) ++ [v2]⟩ :: rowU v2 (f xs[k]) :: L1)) (hps : ∀ p ∈ PS, rowU p.1 p.2 ∈ L1 ∧ Byts p.2) (hb : Byts (f xs[k])) (hall : allOf PS = ((xs.take k).map f).flatten) (hl : PS.length = k) :
    ∀ i, i = .int .i64 ((k + 1 : Nat) : Int) → LsRel w f xs v9 i w9 := fun i hi => by
  refine ⟨k + 1, PS ++ [(v2, f xs[k])], rowU v2 (f xs[k]) :: L1, hi, hlt, ?_, fun p hp => ?_, ?_, by simp [hl]⟩
  · have e : rowPs v9 (PS ++ [(v2, f xs[k])]) = ⟨49, 1, v9, PS.length + 1, PS.map (·.1) ++ [v2]⟩ := by unfold rowPs; simp
    rw [e]; exact hO
  · rcases List.mem_append.1 hp with hp | hp
    · exact ⟨List.mem_cons_of_mem _ (hps p hp).1, (hps p hp).2⟩
    · rw [List.mem_singleton.1 hp]
      exact ⟨List.mem_cons_self .., hb⟩
  · rw [List.take_succ_eq_append_getElem hlt, List.map_append, List.flatten_append, ← hall]
    unfold allOf
    rw [List.map_append, List.flatten_append]
    simp
theorem LsRel.parts {α : Type} {w wr : World} {f : α → List Int} {xs : List α} {v : Value} {PS : List (Value × List Int)} {L1 : List Rw} (h1 : Own w wr (rowPs v PS :: L1)) (h2 : ∀ p ∈ PS, rowU p.1 p.2 ∈ L1 ∧ Byts p.2) : ∃ a c, v = .slice a PS.length c ∧ Parts wr a PS := by
  obtain ⟨a, c, hv, _, _⟩ := Own.sized (h := (show Own w wr (⟨49, 1, v, PS.length, PS.map (·.1)⟩ :: L1) from h1))
  refine ⟨a, c, hv, fun i hi => ?_⟩
  have h3 : Own w wr (⟨49, 1, v, PS.length, PS.map (·.1)⟩ :: L1) := h1
  obtain ⟨g, cap, e, _⟩ := Own.form (h := h3) (by omega)
  rw [e] at hv h3
  injection hv with e1 _ _
  have hc := Own.cell (h := h3) i (by omega)
  refine ⟨g, 0, e1.symm, ?_, ?_⟩
  · rw [Nat.zero_add, hc, List.getElem?_eq_getElem (by simpa using hi)]
    simp
  · obtain ⟨m1, m2⟩ := h2 _ (List.getElem_mem hi)
    exact (h1.only (List.mem_cons_of_mem _ m1)).by m2
theorem src_oneA (w : World) (u : Value) (T : TypeId) (h : u.oneCell' = true) : Src (w.alloc (.cells #[u] T)) (.slice (some ⟨w.heap.size, 0, none⟩) 1 1) 1 [u] := by
  refine .inr ⟨_, _, rfl, fun j x hj => ?_, fun x hx => by rw [List.mem_singleton.1 hx]; exact h⟩
  rw [Addr.add_mid, Nat.zero_add, World.cell?_alloc_new]
  simpa using hj

def textL (s : ByteArray) : List Int := sizedL (sb s)
theorem flat_le {α : Type} (f : α → List Int) (M : Nat) (xs : List α) (h : ∀ x ∈ xs, (f x).length ≤ M) : ((xs.map f).flatten).length ≤ xs.length * M := by
  induction xs with
  | nil => simp
  | cons x xs ih =>
    have h1 := ih fun y hy => h y (List.mem_cons_of_mem _ hy)
    have h2 := h x (List.mem_cons_self ..)
    simp only [List.map_cons, List.flatten_cons, List.length_append, List.length_cons]
    rw [Nat.add_mul]
    omega
theorem flat_byts {α : Type} (f : α → List Int) (xs : List α) (h : ∀ x ∈ xs, Byts (f x)) : Byts (xs.map f).flatten := by
  induction xs with
  | nil => exact Byts.nil
  | cons x xs ih =>
    simp only [List.map_cons, List.flatten_cons]
    exact (h x (List.mem_cons_self ..)).append (ih fun y hy => h y (List.mem_cons_of_mem _ hy))
theorem textL_byts (s : ByteArray) (h : s.size ≤ 1000000) : Byts (textL s) := sizedL_byts _ (sb_byts _) (by rw [sb_length]; omega)
theorem textL_len (s : ByteArray) : (textL s).length = s.size + 4 := by unfold textL; rw [sizedL_length, sb_length]
/-- Parts are packed, whichever. -/
theorem packs_any {W0 : Base} {w : World} {PS : List (Value × List Int)} {L : List Rw} (hO : Own W0 w L) (hr : ∀ p ∈ PS, rowU p.1 p.2 ∈ L ∧ Byts p.2) (hn : PS.length ≤ 1000) (hl : (allOf PS).length ≤ 1000000000) :
    Calls Tryd.prog 22 #[.slice (some ⟨w.heap.size, 0, none⟩) PS.length PS.length] (w.alloc (.cells (PS.map (·.1)).toArray 49)) (fun e w' => ∃ v, e = .returned v ∧ Own W0 w' (rowU v (allOf PS) :: L)) ∧
    Calls Tryd.prog 22 #[.slice (some ⟨w.heap.size, 0, none⟩) PS.length PS.length] (w.alloc (.cells (PS.map (·.1)).toArray 49)).drew (fun e w' => ∃ v, e = .returned v ∧ Own W0 w' (rowU v (allOf PS) :: L)) := by
  have hP : Parts (w.alloc (.cells (PS.map (·.1)).toArray 49)) (some ⟨w.heap.size, 0, none⟩) PS := parts_list w 49 PS (fun p hp => (hO.only (hr p hp).1).by (hr p hp).2) w.heap.size rfl
  have hA := hO.alloc (.cells (PS.map (·.1)).toArray 49)
  refine ⟨(pack_any (some ⟨w.heap.size, 0, none⟩) PS.length PS (w.alloc (.cells (PS.map (·.1)).toArray 49)) hP (by unfold maxLen; omega) (by omega)).mono ?_, (pack_any (some ⟨w.heap.size, 0, none⟩) PS.length PS (World.drew (w.alloc (.cells (PS.map fun (x : Value × List Int) => x.1).toArray 49))) hP (by unfold maxLen; omega) (by omega)).mono ?_⟩
  · rintro e w' ⟨v, rfl, hO2⟩
    exact ⟨v, rfl, hA.join hO2⟩
  · rintro e w' ⟨v, rfl, hO2⟩
    exact ⟨v, rfl, hA.drew.join hO2⟩
abbrev mxI : Int := 9223372036854775807
/-- What comes off bytes, one by one. -/
def runT {α : Type} (f : List Int → Bool → α × List Int × Bool) : Nat → List Int → Bool → List α
  | 0, _, _ => []
  | k + 1, zs, bad => if zs.length = 0 then [] else (f zs bad).1 :: runT f k (f zs bad).2.1 (f zs bad).2.2
theorem runT_nil {α : Type} (f : List Int → Bool → α × List Int × Bool) (k : Nat) (zs : List Int) (bad : Bool) (h : zs.length = 0) : runT f k zs bad = [] := by
  cases k with
  | zero => rfl
  | succ k => unfold runT; rw [if_pos h]
theorem runT_step {α : Type} (f : List Int → Bool → α × List Int × Bool) (k : Nat) (zs : List Int) (bad : Bool) (h : 0 < zs.length) (hk : zs.length ≤ k) (hf : (f zs bad).2.1.length < zs.length) : ∃ m, runT f k zs bad = (f zs bad).1 :: runT f m (f zs bad).2.1 (f zs bad).2.2 ∧ (f zs bad).2.1.length ≤ m := by
  obtain ⟨m, rfl⟩ : ∃ m, k = m + 1 := ⟨k - 1, by omega⟩
  refine ⟨m, ?_, by omega⟩
  rw [runT, if_neg (by omega)]
theorem bodP_len (most : Int) (zs : List Int) (bad : Bool) : (bodP most zs bad).2.1.length + 4 ≤ zs.length ∨ (bodP most zs bad).2.1 = [] := by
  unfold bodP
  split
  · rename_i hs
    left
    obtain ⟨h1, _, _⟩ := hs
    unfold restOf
    rw [List.length_drop, List.length_drop]
    omega
  · exact .inr rfl
theorem numP_len (most : Int) (zs : List Int) (bad : Bool) : (numP most zs bad).2.1.length ≤ zs.length := by
  unfold numP
  split
  · rw [List.length_drop]; omega
  · simp
theorem bodP_le (most : Int) (zs : List Int) (bad : Bool) : (bodP most zs bad).2.1.length ≤ zs.length ∧ (0 < zs.length → (bodP most zs bad).2.1.length < zs.length) := by
  rcases bodP_len most zs bad with h | h
  · omega
  · rw [h]; simp
/-- How much is left to a reader. -/
def leftA (wr : World) (r : Nat) : Nat := match wr.cell? ⟨r, 0, none⟩ with
  | some (.slice _ n _) => n
  | _ => 0
theorem Rd.left {W0 : Base} {w : World} {L : List Rw} {r : Nat} {zs : List Int} {bad : Bool} (h : Rd W0 w L r zs bad) : leftA w r = zs.length := by
  obtain ⟨v, h1, h2⟩ := h
  have h3 := (reader_cells h1).1
  obtain ⟨a, c, hv, _⟩ := h2
  unfold leftA
  rw [h3, hv]
theorem Rd.rowOut {W0 : Base} {w : World} {q : Rw} {L : List Rw} {r : Nat} {zs : List Int} {bad : Bool} (h : Rd W0 w (q :: L) r zs bad) (hq : q.e ≠ 5) : ∃ v, Own W0 w (q :: rowR r v bad :: L) ∧ Pc L v zs := by
  obtain ⟨v, h1, h2⟩ := h
  refine ⟨v, h1.swap, h2.keep fun x hx he => ?_⟩
  rcases List.mem_cons.1 hx with rfl | hx
  · exact absurd he hq
  · exact hx
theorem Rd.rowIn {W0 : Base} {w : World} {q : Rw} {L : List Rw} {r : Nat} {v : Value} {zs : List Int} {bad : Bool} (h : Own W0 w (q :: rowR r v bad :: L)) (hp : Pc L v zs) : Rd W0 w (q :: L) r zs bad := ⟨v, h.swap, hp.cons _⟩
def rowE {α : Type} (T : TypeId) (size : Nat) (cells : α → List Value) (v : Value) (ns : List α) : Rw := ⟨T, size, v, ns.length, (ns.map cells).flatten⟩
def TkRel {α : Type} (W0 : Base) (L : List Rw) (r : Nat) (T : TypeId) (size : Nat) (cells : α → List Value) (f : List Int → Bool → α × List Int × Bool) (zs0 : List Int) (bad0 : Bool) (v : Value) (wr : World) : Prop :=
  ∃ (ns : List α) (zs : List Int) (bad : Bool) (m : Nat), Rd W0 wr (rowE T size cells v ns :: L) r zs bad ∧ runT f zs0.length zs0 bad0 = ns ++ runT f m zs bad ∧ zs.length ≤ m ∧ ns.length + zs.length ≤ zs0.length
theorem info3 {T : TypeId} {z : Value} {b n : Nat} (h : (Tryd.prog.info? T).map (fun i => (i.zero, i.size, i.bytes)) = some (some z, n, b)) : ∃ i, Tryd.prog.info? T = some i ∧ i.zero = some z ∧ i.size = n ∧ i.bytes = b := by
  cases hi : Tryd.prog.info? T with
  | none => rw [hi] at h; cases h
  | some i =>
    rw [hi] at h
    injection h with h
    injection h with h1 h2
    injection h2 with h2 h3
    exact ⟨i, rfl, h1, h2, h3⟩
theorem info_textE : (Tryd.prog.info? 9).map (fun i => (i.zero, i.size, i.bytes)) = some (some (.string ⟨#[]⟩), 1, 16) := by kernel_rfl
theorem Rd.perm {W0 : Base} {w : World} {A B : List Rw} {r : Nat} {zs : List Int} {bad : Bool} (h : Rd W0 w A r zs bad) (hp : A.Perm B) : Rd W0 w B r zs bad := by
  obtain ⟨v, h1, h2⟩ := h
  exact ⟨v, h1.perm (hp.cons _), h2.mono fun x hx => hp.mem_iff.1 hx⟩
theorem Pc.exact {L : List Rw} {a : Option Addr} {n c : Nat} {zs : List Int} (h : Pc L (.slice a n c) zs) : n = zs.length := by
  obtain ⟨a', c', e, _⟩ := h
  injection e
theorem Rd.back {W0 : Base} {w : World} {X L : List Rw} {r r2 : Nat} {v : Value} {zs zs2 : List Int} {bad bad2 : Bool} (h : Rd W0 w (X ++ (rowR r v bad :: L)) r2 zs2 bad2) (hp : Pc L v zs) : Rd W0 w (X ++ L) r zs bad := by
  obtain ⟨v2, h1, _⟩ := h
  exact ⟨v, h1.tail.perm List.perm_middle, hp.mono fun x hx => List.mem_append_right _ hx⟩
theorem flat_at {α : Type} (cells : α → List Value) (size : Nat) (hs : ∀ x, (cells x).length = size) : ∀ (ns : List α) (i : Nat) (h : i < ns.length), (((ns.map cells).flatten).drop (i * size)).take size = cells ns[i]
  | x :: ns, 0, _ => by
    simp only [List.map_cons, List.flatten_cons, Nat.zero_mul, List.drop_zero, List.getElem_cons_zero]
    rw [List.take_append_of_le_length (by rw [hs]; exact Nat.le_refl _), ← hs x, List.take_length]
  | x :: ns, i + 1, h => by
    simp only [List.map_cons, List.flatten_cons, List.getElem_cons_succ]
    rw [Nat.add_mul, Nat.one_mul, List.drop_append, hs, List.drop_of_length_le (by rw [hs]; omega), List.nil_append, Nat.add_sub_cancel]
    exact flat_at cells size hs ns i (by simpa using h)
theorem rowE_slc {α : Type} {W0 : Base} {w : World} {L : List Rw} {T : TypeId} {size : Nat} {cells : α → List Value} {v : Value} {ns : List α} (h : Own W0 w L) (hm : rowE T size cells v ns ∈ L) (hs : ∀ x, (cells x).length = size) : ∃ a c, v = .slice a ns.length c ∧ ns.length ≤ c ∧ SlcA w a size (ns.map cells) := by
  have h1 : Own W0 w (⟨T, size, v, ns.length, (ns.map cells).flatten⟩ :: []) := h.only hm
  obtain ⟨a, c, hv, hc, _⟩ := Own.sized (h := h1)
  refine ⟨a, c, hv, hc, fun i hi => ?_⟩
  have hi' : i < ns.length := by simpa using hi
  obtain ⟨g, cap, e, _⟩ := Own.form (h := h1) (by omega)
  rw [e] at hv h1
  injection hv with e1 _ _
  refine ⟨g, 0, e1.symm, ?_⟩
  have h2 := Own.range (h := h1) (i * size) size
  rw [flat_at cells size hs ns i hi'] at h2
  rw [Nat.zero_add, List.getElem_map]
  exact h2
/-- What a reader gives as a list's inside. -/
def inL (zs : List Int) : List Int × Bool := ((bodP 16777216 zs false).1, (bodP 16777216 zs false).2.2)
def outL (zs : List Int) (bad : Bool) : List Int × Bool := ((bodP 16777216 zs bad).2.1, (bodP 16777216 zs bad).2.2)
def tkT {α : Type} (f : List Int → Bool → α × List Int × Bool) (s : List Int × Bool) : List α := runT f (inL s.1).1.length (inL s.1).1 (inL s.1).2
theorem inL_len (zs : List Int) : (inL zs).1.length ≤ zs.length := by
  unfold inL bodP
  dsimp only
  split
  · unfold bodyOf
    rw [List.length_take, List.length_drop]; omega
  · simp
theorem outL_len (zs : List Int) (bad : Bool) : (outL zs bad).1.length ≤ zs.length := (bodP_le 16777216 zs bad).1
/-- The next list's inside is a reader of its own; what is taken off it lies beside the outer one. -/
theorem alist_any {W0 : Base} {w : World} {L : List Rw} {r : Nat} {s : List Int × Bool} (h : Rd W0 w L r s.1 s.2) :
    Calls Tryd.prog 13 #[.pointer (some ⟨r, 0, none⟩)] w fun e w' => ∃ r2 v, e = .returned (.pointer (some ⟨r2, 0, none⟩)) ∧ Rd W0 w' (rowR r v (outL s.1 s.2).2 :: L) r2 (inL s.1).1 (inL s.1).2 ∧ Pc L v (outL s.1 s.2).1 :=
  h.list.mono fun e w' ⟨r2, he, h2⟩ => by
    obtain ⟨v, hp, hi⟩ := h2.inner
    exact ⟨r2, v, he, hi, hp⟩
end Go.Proofs.YtjhaihckbmkiaaaDoor
