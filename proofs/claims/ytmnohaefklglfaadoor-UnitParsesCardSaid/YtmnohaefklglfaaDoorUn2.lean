/- A unit that is being read: its block, its lists' rows, the map by which its lists are found, the parser's block. -/
import Derived.Test.YtmnohaefklglfaaDoorUn0
import Derived.Test.YtmnohaefklglfaaDoorMHeap
import Derived.Test.YtmnohaefklglfaaDoorPRef2
import Derived.Test.YtmnohaefklglfaaDoorPJoin
namespace Go.Proofs.YtmnohaefklglfaaDoor
open Go.RowKit
open Go.ChangeMaps (setBlock)
set_option linter.unusedVariables false
set_option linter.unusedSimpArgs false
set_option maxRecDepth 100000

abbrev KS (s : ByteArray) : Value := .string s
theorem kindsS : Kinds Tryd.prog 9 KS := kinds_string Tryd.underlying9
def unitL (name : List UInt8) (vs : List Value) (r : Int) : List Value := .string (toB name) :: (vs ++ [.int .i64 r])
def unitO (name : List UInt8) (vs : List Value) (r : Int) : Obj := .cells (unitL name vs r).toArray 25
def rowsU (vs : List Value) (ls : List (List (List UInt8))) : List Rw := List.zipWith rowSs vs ls
/-- A map by which a unit's lists are found. -/
def MapU (ub : Nat) (o : Obj) : Prop := ∃ m, MapO KS o m ∧ ∀ x, look m (toB x) = (wordAt x).map fun k => .pointer (some ⟨ub, 1 + k, none⟩)
def retU (u : UD) : Int := ((u.retry.getD 0 : Nat) : Int)
/-- A unit that is being read, beside blocks that are known. -/
def PU (w0 : World) (K : Blocks) (ub mb pb : Nat) (u : UD) (w : World) : Prop :=
  ∃ S vs o, Own ⟨w0, S⟩ w (rowsU vs u.ls) ∧ (ub, unitO u.name vs (retU u)) ∈ S ∧ (mb, o) ∈ S ∧ MapU ub o ∧ (pb, .cells #[.pointer (some ⟨ub, 0, none⟩), .map (some mb), .bool u.retry.isSome] 48) ∈ S ∧
    vs.length = 6 ∧ u.ls.length = 6 ∧ (∀ x ∈ K, x ∈ S) ∧ (ub :: mb :: pb :: K.map (·.1)).Nodup
section
variable {w0 w w' : World} {K K' : Blocks} {ub mb pb b : Nat} {u : UD}
theorem PU.below (h : PU w0 K ub mb pb u w) : Below w0.heap.size w0 w := by
  obtain ⟨S, vs, o, hO, _⟩ := h
  exact hO.below
theorem PU.later (h : PU w0 K ub mb pb u w) (hb : Below w.heap.size w w') : PU w0 K ub mb pb u w' := by
  obtain ⟨S, vs, o, hO, h2⟩ := h
  exact ⟨S, vs, o, hO.later hb, h2⟩
theorem PU.drew (h : PU w0 K ub mb pb u w) : PU w0 K ub mb pb u w.drew := h.later (Below.refl _ w).drew
theorem PU.at (h : PU w0 K ub mb pb u w) {x : Obj} (hb : (b, x) ∈ K) : w.heap[b]? = some x := by
  obtain ⟨S, vs, o, hO, _, _, _, _, _, _, h7, _⟩ := h
  exact hO.at (h7 _ hb)
theorem PU.perm (h : PU w0 K ub mb pb u w) (hp : K.Perm K') : PU w0 K' ub mb pb u w := by
  obtain ⟨S, vs, o, hO, h1, h2, h3, h4, h5, h6, h7, h8⟩ := h
  exact ⟨S, vs, o, hO, h1, h2, h3, h4, h5, h6, fun x hx => h7 x (hp.mem_iff.2 hx), ((hp.map _).cons _ |>.cons _ |>.cons _).nodup_iff.1 h8⟩
/-- A known block is turned. -/
theorem PU.turn {x : Obj} (h : PU w0 ((b, x) :: K) ub mb pb u w) (y : Obj) : PU w0 ((b, y) :: K) ub mb pb u (setBlock w b y) := by
  obtain ⟨S, vs, o, hO, h1, h2, h3, h4, h5, h6, h7, h8⟩ := h
  have hbS := h7 _ (List.mem_cons_self ..)
  simp only [List.map_cons, List.nodup_cons, List.mem_cons, not_or] at h8
  obtain ⟨⟨a1, a2, a3, a4⟩, ⟨b1, b2, b3⟩, ⟨c1, c2⟩, d1, d2⟩ := h8
  refine ⟨upd S b y, vs, o, hO.setB hbS y, upd_other h1 a3 _, upd_other h2 b2 _, h3, upd_other h4 c1 _, h5, h6, fun z hz => ?_, by simp only [List.map_cons, List.nodup_cons, List.mem_cons, not_or]; exact ⟨⟨a1, a2, a3, a4⟩, ⟨b1, b2, b3⟩, ⟨c1, c2⟩, d1, d2⟩⟩
  rcases List.mem_cons.1 hz with rfl | hz
  · exact upd_same hbS _
  · exact upd_other (h7 z (List.mem_cons_of_mem _ hz)) (fun e => d1 (List.mem_map.2 ⟨z, hz, e⟩)) _
theorem PU.store {c : Array Value} {T : TypeId} (h : PU w0 ((b, .cells c T) :: K) ub mb pb u w) (j : Nat) (v : Value) : PU w0 ((b, .cells (c.setIfInBounds j v) T) :: K) ub mb pb u (w.setCell ⟨b, j, none⟩ v) := by
  rw [set_at (h.at (List.mem_cons_self ..))]
  exact h.turn _
/-- What lies in its blocks. -/
theorem PU.parser (h : PU w0 K ub mb pb u w) : w.cell? ⟨pb, 0, none⟩ = some (.pointer (some ⟨ub, 0, none⟩)) ∧ w.cell? ⟨pb, 1, none⟩ = some (.map (some mb)) ∧ w.cell? ⟨pb, 2, none⟩ = some (.bool u.retry.isSome) ∧ ∀ j, w.frozen? ⟨pb, j, none⟩ = false := by
  obtain ⟨S, vs, o, hO, h1, h2, h3, h4, _⟩ := h
  exact ⟨hO.cellB h4 0, hO.cellB h4 1, hO.cellB h4 2, fun j => free_at (hO.at h4) j⟩
theorem PU.name (h : PU w0 K ub mb pb u w) : w.cell? ⟨ub, 0, none⟩ = some (.string (toB u.name)) ∧ ∀ j, w.frozen? ⟨ub, j, none⟩ = false := by
  obtain ⟨S, vs, o, hO, h1, _⟩ := h
  exact ⟨hO.cellB h1 0, fun j => free_at (hO.at h1) j⟩
theorem PU.ret (h : PU w0 K ub mb pb u w) : w.cell? ⟨ub, 7, none⟩ = some (.int .i64 (retU u)) := by
  obtain ⟨S, vs, o, hO, h1, _, _, _, h5, _⟩ := h
  rw [hO.cellB h1 7]
  obtain ⟨a, b, c, d, e, f, rfl⟩ : ∃ a b c d e f, vs = [a, b, c, d, e, f] := by
    match vs, h5 with
    | [a, b, c, d, e, f], _ => exact ⟨a, b, c, d, e, f, rfl⟩
  rfl
theorem PU.find (h : PU w0 K ub mb pb u w) (x : List UInt8) : (Instr.lookup 45 (.map (some mb)) (.string (toB x)) true).run Tryd.prog w = .ok (.tuple #[((wordAt x).map fun k => Value.pointer (some ⟨ub, 1 + k, none⟩)).getD (.pointer none), .bool (wordAt x).isSome]) w := by
  obtain ⟨S, vs, o, hO, _, h2, ⟨m, h3, h3'⟩, _⟩ := h
  have hl := MapO.lookup kindsS Tryd.underlying45 (z := .pointer none) (by kernel_rfl) h3 (hO.at h2) (toB x) true
  rw [h3'] at hl
  rw [hl, if_pos rfl]
  cases wordAt x <;> rfl
theorem unitO_set (name : List UInt8) (vs : List Value) (r : Int) (nm : List UInt8) : (unitL name vs r).toArray.setIfInBounds 0 (.string (toB nm)) = (unitL nm vs r).toArray := by
  unfold unitL; simp
theorem PU.setName (h : PU w0 K ub mb pb u w) (nm : List UInt8) : PU w0 K ub mb pb { u with name := nm } (w.setCell ⟨ub, 0, none⟩ (.string (toB nm))) := by
  obtain ⟨S, vs, o, hO, h1, h2, h3, h4, h5, h6, h7, h8⟩ := h
  have hO' := hO.storeB h1 0 (.string (toB nm))
  rw [unitO_set] at hO'
  simp only [List.nodup_cons, List.mem_cons, not_or] at h8
  refine ⟨_, vs, o, hO', upd_same h1 _, upd_other h2 (fun e => h8.1.1 e.symm) _, h3, upd_other h4 (fun e => h8.1.2.1 e.symm) _, h5, h6, fun z hz => upd_other (h7 z hz) (fun e => h8.1.2.2 (List.mem_map.2 ⟨z, hz, e⟩)) _, by simpa only [List.nodup_cons, List.mem_cons, not_or] using h8⟩
theorem unitO_ret (name : List UInt8) (vs : List Value) (r d : Int) (h : vs.length = 6) : (unitL name vs r).toArray.setIfInBounds 7 (.int .i64 d) = (unitL name vs d).toArray := by
  obtain ⟨a, b, c, d, e, f, rfl⟩ : ∃ a b c d e f, vs = [a, b, c, d, e, f] := by
    match vs, h with
    | [a, b, c, d, e, f], _ => exact ⟨a, b, c, d, e, f, rfl⟩
  simp [unitL]
theorem PU.setRetry (h : PU w0 K ub mb pb u w) (d : Nat) : PU w0 K ub mb pb { u with retry := some d } ((w.setCell ⟨ub, 7, none⟩ (.int .i64 d)).setCell ⟨pb, 2, none⟩ (.bool true)) := by
  obtain ⟨S, vs, o, hO, h1, h2, h3, h4, h5, h6, h7, h8⟩ := h
  have hO' := hO.storeB h1 7 (.int .i64 d)
  rw [unitO_ret _ _ _ _ h5] at hO'
  simp only [List.nodup_cons, List.mem_cons, not_or] at h8
  obtain ⟨⟨a1, a2, a3⟩, ⟨b1, b2⟩, c1, d1⟩ := h8
  have h4' := upd_other (o' := Obj.cells (unitL u.name vs d).toArray 25) h4 (fun e => a2 e.symm)
  have hO2 := hO'.storeB h4' 2 (.bool true)
  refine ⟨_, vs, o, hO2, upd_other (upd_same h1 _) a2 _, upd_other (upd_other h2 (fun e => a1 e.symm) _) b1 _, h3, upd_same h4' _, h5, h6, fun z hz => upd_other (upd_other (h7 z hz) (fun e => a3 (List.mem_map.2 ⟨z, hz, e⟩)) _) (fun e => c1 (List.mem_map.2 ⟨z, hz, e⟩)) _, by simp only [List.nodup_cons, List.mem_cons, not_or]; exact ⟨⟨a1, a2, a3⟩, ⟨b1, b2⟩, c1, d1⟩⟩
/-- One of the rows, taken out. -/
theorem zip_at {vs : List Value} {ls : List (List (List UInt8))} (hl : vs.length = ls.length) (k : Nat) (hk : k < ls.length) : rowsU vs ls = (rowsU vs ls).take k ++ rowSs (vs[k]'(by omega)) ls[k] :: (rowsU vs ls).drop (k + 1) := by
  have hlen : k < (rowsU vs ls).length := by simp [rowsU]; omega
  have e : (rowsU vs ls)[k] = rowSs (vs[k]'(by omega)) ls[k] := by simp [rowsU]
  rw [← e]
  simp
theorem zip_set {vs : List Value} {ls : List (List (List UInt8))} (hl : vs.length = ls.length) (k : Nat) (hk : k < ls.length) (v : Value) (l : List (List UInt8)) : rowsU (vs.set k v) (ls.set k l) = (rowsU vs ls).take k ++ rowSs v l :: (rowsU vs ls).drop (k + 1) := by
  have e : rowsU (vs.set k v) (ls.set k l) = (rowsU vs ls).set k (rowSs v l) := by
    apply List.ext_getElem?
    intro i
    simp only [rowsU, List.getElem?_zipWith, List.getElem?_set]
    by_cases hi : k = i
    · subst hi
      have h1 : k < vs.length := by omega
      simp [hk, h1]; omega
    · simp [hi]
  rw [e, List.set_eq_take_append_cons_drop, if_pos (by simp [rowsU]; omega)]
theorem unitO_put (name : List UInt8) (vs : List Value) (r : Int) (k : Nat) (hk : k < vs.length) (v : Value) : (unitL name vs r).toArray.setIfInBounds (1 + k) v = (unitL name (vs.set k v) r).toArray := by
  unfold unitL
  apply Array.ext'
  simp only [Array.toList_setIfInBounds]
  rw [Nat.add_comm 1 k, List.set_cons_succ, List.set_append_left _ _ hk]
/-- A list of it: the value, its row out of the others, what a longer row makes of it. -/
theorem PU.list (h : PU w0 K ub mb pb u w) (k : Nat) (hk : k < 6) : ∃ S v L, w.cell? ⟨ub, 1 + k, none⟩ = some v ∧ Own ⟨w0, S⟩ w (rowSs v (listU u k) :: L) ∧
    ∀ w1 v' l', Own ⟨w0, S⟩ w1 (rowSs v' l' :: L) → w1.cell? ⟨ub, 1 + k, none⟩ = some v ∧ w1.frozen? ⟨ub, 1 + k, none⟩ = false ∧ PU w0 K ub mb pb { u with ls := u.ls.set k l' } (w1.setCell ⟨ub, 1 + k, none⟩ v') := by
  obtain ⟨S, vs, o, hO, h1, h2, h3, h4, h5, h6, h7, h8⟩ := h
  have hkv : k < vs.length := by omega
  have hkl : k < u.ls.length := by omega
  have hc : ∀ {L w1}, Own ⟨w0, S⟩ w1 L → w1.cell? ⟨ub, 1 + k, none⟩ = some vs[k] := fun hO1 => by
    rw [hO1.cellB h1 (1 + k)]
    unfold unitL
    rw [Nat.add_comm 1 k]
    simp [List.getElem?_append_left hkv]
  have hlu : listU u k = u.ls[k] := by unfold listU; simp [hkl]
  refine ⟨S, vs[k], (rowsU vs u.ls).take k ++ (rowsU vs u.ls).drop (k + 1), hc hO, ?_, fun w1 v' l' hO1 => ⟨hc hO1, free_at (hO1.at h1) _, ?_⟩⟩
  · rw [hlu]
    rw [zip_at (by omega) k hkl] at hO
    exact hO.perm List.perm_middle
  · have hO2 : Own ⟨w0, S⟩ w1 (rowsU (vs.set k v') (u.ls.set k l')) := by
      rw [zip_set (by omega) k hkl]
      exact hO1.perm List.perm_middle.symm
    have hO3 := hO2.storeB h1 (1 + k) v'
    rw [unitO_put _ _ _ _ hkv] at hO3
    simp only [List.nodup_cons, List.mem_cons, not_or] at h8
    refine ⟨_, _, o, hO3, upd_same h1 _, upd_other h2 (fun e => h8.1.1 e.symm) _, h3, upd_other h4 (fun e => h8.1.2.1 e.symm) _, by simpa using h5, by simpa using h6, fun z hz => upd_other (h7 z hz) (fun e => h8.1.2.2 (List.mem_map.2 ⟨z, hz, e⟩)) _, by simpa only [List.nodup_cons, List.mem_cons, not_or] using h8⟩
end
end Go.Proofs.YtmnohaefklglfaaDoor
