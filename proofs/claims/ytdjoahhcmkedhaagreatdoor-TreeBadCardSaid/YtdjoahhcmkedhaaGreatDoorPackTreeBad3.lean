/- Texts one behind the other, each in a section of its own: what calls make of memory, step by step. -/
import Derived.Test.YtdjoahhcmkedhaaGreatDoorPackTreeBad2
import Derived.Shelf.SlMaps.Clone
import Derived.Deep.RegionHeld3
import Derived.Test.YtdjoahhcmkedhaaGreatDoorProg
import Derived.WalkLawsBesides
import Derived.Outline
import Derived.Lib.Hide
import Derived.Lib.AppendZerosOnto
import Derived.Lib.SliceRun

/- Paths of which names are known; the path of the directory ahead of a path's last name. -/
section
namespace Go.Proofs.YtdjoahhcmkedhaaGreatDoor
open Go.RowKit
set_option linter.unusedVariables false
set_option linter.unusedSimpArgs false

theorem parts_free (l : List UInt8) (h : (47 : UInt8) ∉ l) : partsL l = [l] := by
  induction l with
  | nil => rfl
  | cons c l ih =>
    have h1 : c ≠ 47 := fun e => h (by rw [e]; exact List.mem_cons_self ..)
    unfold partsL
    rw [if_neg h1, ih fun e => h (List.mem_cons_of_mem _ e)]; rfl
theorem parts_app (x : List UInt8) (r : List UInt8) (h : (47 : UInt8) ∉ x) : partsL (x ++ 47 :: r) = x :: partsL r := by
  induction x with
  | nil => show partsL (47 :: r) = _; rw [partsL, if_pos rfl]
  | cons c l ih =>
    have h1 : c ≠ 47 := fun e => h (by rw [e]; exact List.mem_cons_self ..)
    show partsL (c :: (l ++ 47 :: r)) = _
    rw [partsL, if_neg h1, ih fun e => h (List.mem_cons_of_mem _ e)]; rfl
theorem parts_join (ls : List (List UInt8)) (hne : ls ≠ []) (h : ∀ l ∈ ls, (47 : UInt8) ∉ l) : partsL (Lib.join ls [47]) = ls := by
  induction ls with
  | nil => exact absurd rfl hne
  | cons x r ih =>
    rw [Lib.join_cons]
    have hx := h x (List.mem_cons_self ..)
    cases r with
    | nil => simp only [Lib.joinTail, List.map_nil, List.flatten_nil, List.append_nil]; exact parts_free x hx
    | cons y r =>
      have e : Lib.joinTail [47] (y :: r) = 47 :: Lib.join (y :: r) [47] := by
        rw [Lib.join_cons]; simp [Lib.joinTail]
      rw [e, parts_app x _ hx, ih (by simp) fun l hl => h l (List.mem_cons_of_mem _ hl)]
/-- How long the path of names is. -/
def sumL (ls : List (List UInt8)) : Nat := (ls.map fun l => 1 + l.length).sum
theorem sumL_take (ls : List (List UInt8)) (k : Nat) (h : k < ls.length) : sumL (ls.take (k + 1)) = sumL (ls.take k) + (1 + ls[k].length) := by
  unfold sumL
  rw [List.take_succ_eq_append_getElem h, List.map_append, List.sum_append, List.map_cons, List.map_nil, List.sum_cons, List.sum_nil]; rfl
theorem sumL_join (ls : List (List UInt8)) (hne : ls ≠ []) : (joinL ls).length = sumL ls := by
  induction ls with
  | nil => exact absurd rfl hne
  | cons x r ih =>
    cases r with
    | nil => simp [joinL, Lib.join_cons, Lib.joinTail, sumL]; omega
    | cons y r =>
      have h1 := ih (by simp)
      have e : joinL (x :: y :: r) = 47 :: (x ++ joinL (y :: r)) := by
        unfold joinL
        rw [Lib.join_cons, Lib.join_cons]; simp [Lib.joinTail]
      rw [e, List.length_cons, List.length_append, h1]
      show _ = ((1 + x.length) :: ((y :: r).map fun l => 1 + l.length)).sum
      rw [List.sum_cons]
      show _ = _ + sumL (y :: r)
      omega
theorem sumL_le (ls : List (List UInt8)) (m : Nat) (h : ∀ l ∈ ls, l.length ≤ m) : sumL ls ≤ ls.length * (m + 1) := by
  unfold sumL
  induction ls with
  | nil => simp
  | cons x r ih =>
    have h1 := h x (List.mem_cons_self ..)
    have h2 := ih fun l hl => h l (List.mem_cons_of_mem _ hl)
    rw [List.map_cons, List.sum_cons, List.length_cons, Nat.add_mul]; omega
/-- May so many names stand in a path? -/
def rightL (ls : List (List UInt8)) : Bool := decide (0 < ls.length ∧ ls.length ≤ 5) && ls.all nameL
theorem okP_join (ls : List (List UInt8)) (hne : ls ≠ []) (h47 : joinL ls ≠ [47]) (h : ∀ l ∈ ls, (47 : UInt8) ∉ l) : okP (joinL ls) = (rightL ls && decide (sumL ls ≤ 40)) ∧ (okP (joinL ls) = true → namesL (joinL ls) = ls) := by
  have e : (joinL ls).tail = Lib.join ls [47] := rfl
  have hp : partsL (joinL ls).tail = ls := by rw [e]; exact parts_join ls hne h
  have hpos : 0 < ls.length := List.length_pos_iff.2 hne
  refine ⟨?_, fun ho => ?_⟩
  · unfold okP rightL
    rw [decide_eq_false h47, hp, sumL_join ls hne]
    have hh : (joinL ls).head? = some 47 := rfl
    rw [decide_eq_true hh]
    by_cases h5 : ls.length ≤ 5
    · rw [decide_eq_true h5, decide_eq_true (show 0 < ls.length ∧ ls.length ≤ 5 from ⟨hpos, h5⟩)]
      simp [Bool.and_comm]
    · rw [decide_eq_false h5, decide_eq_false (show ¬ (0 < ls.length ∧ ls.length ≤ 5) from fun h => h5 h.2)]
      simp
  · unfold namesL; rw [if_neg h47, ho, hp]; rfl
theorem join_root (ls : List (List UInt8)) (h : joinL ls = [47]) : ls.length ≤ 1 := by
  unfold joinL at h
  have h1 : Lib.join ls [47] = [] := by injection h
  cases ls with
  | nil => simp
  | cons x r =>
    cases r with
    | nil => simp
    | cons y r =>
      rw [Lib.join_cons] at h1
      simp [Lib.joinTail] at h1
theorem sumL_glue (p : List UInt8) {r : List (List UInt8)} (h : r ≠ []) : sumL (glue p r) = p.length + sumL r := by
  cases r with
  | nil => exact absurd rfl h
  | cons q r => simp [glue, sumL]; omega
theorem sumL_parts (l : List UInt8) : sumL (partsL l) = l.length + 1 := by
  induction l with
  | nil => rfl
  | cons c l ih =>
    unfold partsL
    split
    · simp only [sumL, List.map_cons, List.sum_cons] at ih ⊢
      simp only [List.length_nil, List.length_cons]; omega
    · rw [sumL_glue _ (partsL_ne l), ih]; simp; omega
theorem sumL_append (a b : List (List UInt8)) : sumL (a ++ b) = sumL a + sumL b := by unfold sumL; rw [List.map_append, List.sum_append]
/-- The path ahead of a path's last name is a path, of the other names. -/
theorem parent_path {l : List UInt8} {ini : List (List UInt8)} {z : List UInt8} (h : namesL l = ini ++ [z]) : okP (joinL ini) = true ∧ namesL (joinL ini) = ini := by
  obtain ⟨h5, h6⟩ := names_bounds l
  rw [h] at h5 h6
  have hok : l ≠ [47] ∧ okP l = true ∧ partsL l.tail = ini ++ [z] := by
    unfold namesL at h
    split at h
    · exact absurd h (by simp)
    · rename_i h1
      split at h
      · rename_i h2; exact ⟨h1, h2, h⟩
      · exact absurd h (by simp)
  obtain ⟨h1, h2, h3⟩ := hok
  have hlen : l.length ≤ 40 ∧ l.head? = some 47 := by
    unfold okP at h2
    rw [decide_eq_false h1] at h2
    simp only [Bool.false_or, Bool.and_eq_true, decide_eq_true_eq] at h2
    exact ⟨h2.1.1.1, h2.1.1.2⟩
  have hs := sumL_parts l.tail
  rw [h3, sumL_append] at hs
  have hl : l.tail.length + 1 = l.length := by
    cases l with
    | nil => simp at hlen
    | cons c r => simp
  cases ini with
  | nil => exact ⟨by decide, by decide⟩
  | cons x r =>
    have hne : (x :: r) ≠ [] := by simp
    have hn : ∀ n ∈ x :: r, nameL n = true := fun n hn => h6 n (List.mem_append_left _ hn)
    have h47 : joinL (x :: r) ≠ [47] := fun e => by
      have h7 := congrArg List.length e
      rw [sumL_join _ hne] at h7
      have h8 := (name_len (hn x (List.mem_cons_self ..))).1
      simp only [sumL, List.map_cons, List.sum_cons, List.length_cons, List.length_nil] at h7
      omega
    obtain ⟨h9, h10⟩ := okP_join (x :: r) hne h47 (fun n hm => nameL_no_slash (hn n hm))
    have h11 : okP (joinL (x :: r)) = true := by
      rw [h9]
      unfold rightL
      rw [List.length_append] at h5
      simp only [List.length_cons, List.length_nil, Nat.zero_add] at h5
      simp only [Bool.and_eq_true, decide_eq_true_eq, List.all_eq_true]
      refine ⟨⟨⟨by simp, by simp only [List.length_cons]; omega⟩, hn⟩, by omega⟩
    exact ⟨h11, h10 h11⟩
end Go.Proofs.YtdjoahhcmkedhaaGreatDoor
end

/- place: where something may stand. -/
section
namespace Go.Proofs.YtdjoahhcmkedhaaGreatDoor
open Go.RowKit
open Go.ChangeMaps (setBlock)
set_option linter.unusedVariables false
set_option linter.unusedSimpArgs false
set_option maxRecDepth 100000

theorem ret_cell_tmp {P : Program} {fn : Func} {p u : Tmp} {ty : TypeId} (h : fn.results = #[.cell p ty, .tmp u]) {tmps : Array Value} {w : World} {b : Nat} {cs : List Value} {v : Value} {d : TypeDesc} (hp : tmps.getD p undef = .pointer (some ⟨b, 0, none⟩)) (hu : tmps.getD u undef = v)
    (hr : w.rangeAt b 0 cs) (ht : P.underlying ty = some d) (hd : d.isRow = true) (hi : (P.info? ty).map (·.size) = some cs.length) : (results fn tmps).run P w = .ok (.tuple #[.agg cs.toArray, v]) w := by
  rw [results_cell_tmp h, hp, hu]
  have e : (asAddr (.pointer (some ⟨b, 0, none⟩))).run P w = .ok ⟨b, 0, none⟩ w := rfl
  rw [e]
  simp only [Result.andThen_ok, run_loadVar_mid w b 0 ty cs d hr ht hd hi]
def rP (g : Nat) (xs : List Value) : Rw := ⟨115, 2, .slice (some ⟨g, 0, none⟩) 1 1, 1, xs⟩
def zP : List Value := [.pointer none, .string ⟨#[]⟩]
theorem Own.boxP {W0 : Base} {w : World} {L : List Rw} (h : Own W0 w L) (xs : List Value) (hx : xs.length = 2) (g : Nat) (hg : g = w.heap.size) : Own W0 (w.alloc (.cells xs.toArray 115)) (rP g xs :: L) :=
  h.made_at 115 2 xs.toArray 1 g hg (by simp [hx]) (by unfold maxLen; decide)
theorem Own.setP {W0 : Base} {w : World} {g : Nat} {xs : List Value} {L : List Rw} (h : Own W0 w (rP g xs :: L)) (ys : List Value) (hx : xs.length = ys.length) : Own W0 (w.setCells g 0 ys) (rP g ys :: L) := by
  have h1 := Own.setCells (h := h) ys 0
  rw [splice_all' xs ys hx] at h1
  exact h1
theorem Own.rangeP {W0 : Base} {w : World} {g : Nat} {xs : List Value} {L : List Rw} (h : Own W0 w (rP g xs :: L)) (hx : xs.length = 2) : w.rangeAt g 0 xs := by
  have h1 := Own.range (h := h) 0 2
  rw [List.drop_zero, ← hx, List.take_length] at h1
  exact h1
theorem Own.cellsP {W0 : Base} {w : World} {g : Nat} {a b : Value} {L : List Rw} (h : Own W0 w (rP g [a, b] :: L)) :
    (w.cell? ⟨g, 0, none⟩ = some a ∧ w.cell? ⟨g, 1, none⟩ = some b) ∧ w.frozen? ⟨g, 0, none⟩ = false ∧ w.frozen? ⟨g, 1, none⟩ = false :=
  ⟨⟨Own.cell (h := h) 0 (by decide), Own.cell (h := h) 1 (by decide)⟩, Own.free (h := h) 0, Own.free (h := h) 1⟩
theorem built_place : Tryz.prog.built 115 [] = some zP.toArray := by kernel_rfl
theorem info_place : (Tryz.prog.info? 115).map (·.size) = some 2 := by kernel_rfl

/-- Where something may stand: a directory's number, the directory, a name; or what is wrong. -/
def placeT (T : Tr) (l : List UInt8) : Int × Option (Int × Nd × List UInt8) := match (namesL l).getLast? with
  | none => (14, none)
  | some z => match walkT T 1 (namesL l).dropLast with
    | none => (8, none)
    | some j => match look T.nodes j with
      | none => (8, none)
      | some nd => if nd.k.isSome then (0, some (j, nd, z)) else (11, none)
def placeL : Option (Int × Nd × List UInt8) → List Value
  | none => zP
  | some (_, nd, z) => [.pointer (some ⟨nd.b, 0, none⟩), .string (toB z)]
theorem findT_parent {T : Tr} {l : List UInt8} {ini : List (List UInt8)} {z : List UInt8} (h : namesL l = ini ++ [z]) : findT T (joinL ini) = walkT T 1 ini := by
  obtain ⟨h1, h2⟩ := parent_path h
  unfold findT
  rw [h1, h2]; rfl
theorem placeT_yes (T : Tr) {l : List UInt8} {ini : List (List UInt8)} {z : List UInt8} (h : namesL l = ini ++ [z]) : placeT T l = match standT T (joinL ini) with
    | none => (8, none)
    | some nd => if nd.k.isSome then (0, some ((walkT T 1 ini).getD 0, nd, z)) else (11, none) := by
  unfold placeT standT
  rw [findT_parent h, h]
  simp only [List.getLast?_append, List.getLast?_singleton, Option.some_or, List.dropLast_concat]
  cases walkT T 1 ini with
  | none => rfl
  | some j => rfl
set_option maxHeartbeats 1000000 in
theorem place_any {w : World} {D : Value → List Int → Prop} {t : Nat} {T : Tr} (H : TreeIn (inW w) D t T) (G : Good T) (s : ByteArray) (hs : s.size ≤ maxLen) (hm : Mx w) :
    Calls Tryz.prog 65 #[.pointer (some ⟨t, 0, none⟩), .string s] w fun e w' => e = .returned (.tuple #[.agg (placeL (placeT T s.data.toList).2).toArray, .int .i64 (placeT T s.data.toList).1]) ∧ Below w.heap.size w w' := by
  have hb := built_place
  have hi := info_place
  have hO0 := (Own.start w).boxP zP rfl w.heap.size rfl
  have hA : Below w.heap.size w (w.alloc (.cells zP.toArray 115)) := hO0.below
  have hm1 := hm.later hA
  have H1 := H.later hA
  rcases List.eq_nil_or_concat (namesL s.data.toList) with h0 | ⟨ini, z, h0⟩
  · have hE : placeT T s.data.toList = (14, none) := by unfold placeT; rw [h0]; rfl
    have hp := parent_no s _ hs hm1 h0
    rw [hE]
    dsimp only [placeL]
    clear hE h0 H H1 G
    go_enter Tryz.func65, Tryz.ntmps65
    go_wp2_with fail
    refine hp.mono ?_
    rintro e w2 ⟨rfl, hb2⟩
    have hO2 := hO0.later hb2
    obtain ⟨⟨p0, p1⟩, q0, q1⟩ := Own.cellsP (h := (show Own _ w2 (rP w.heap.size [.pointer none, .string ⟨#[]⟩] :: []) from hO2))
    have HS := Lib.hid (hO2.setP zP rfl)
    clear hO0 hO2 hA hb2
    unfold zP at *
    go_wp2_with fail
    have cr := HS.out.rangeP rfl
    refine bodyPost_ret (v := .tuple #[.agg zP.toArray, .int .i64 14]) (ret_cell_tmp Tryz.results65 rfl rfl cr Tryz.underlying115 rfl hi) rfl ?_
    exact ⟨rfl, HS.out.below⟩
  · rw [List.concat_eq_append] at h0
    have hp := parent_yes s _ hs hm1 ini z h0
    have hE := placeT_yes T h0
    obtain ⟨h5, h6⟩ := names_bounds s.data.toList
    rw [h0] at h5 h6
    rw [List.length_append, List.length_singleton] at h5
    have hj := join_size ini 12 (fun n hn => (name_len (h6 n (List.mem_append_left _ hn))).2) (by omega) (by omega)
    have hjs : (toB (joinL ini)).size ≤ maxLen := by rw [toB_size]; unfold joinL maxLen; simp only [List.length_cons]; omega
    have hst : ∀ w2, Below (w.alloc (.cells zP.toArray 115)).heap.size (w.alloc (.cells zP.toArray 115)) w2 → Calls Tryz.prog 57 #[.pointer (some ⟨t, 0, none⟩), .string (toB (joinL ini))] w2 fun e w' => e = .returned (ptrOf (standT T (joinL ini))) ∧ Below w2.heap.size w2 w' := fun w2 hb2 => stands_any (H1.later hb2) G (toB (joinL ini)) hjs (hm1.later hb2)
    clear h5 h6 hj hjs h0
    cases hS : standT T (joinL ini) with
    | none =>
      rw [hS] at hE hst
      dsimp only at hE
      rw [hE]
      dsimp only [placeL, ptrOf] at *
      clear hE hS H H1 G
      go_enter Tryz.func65, Tryz.ntmps65
      go_wp2_with fail
      refine hp.mono ?_
      rintro e w2 ⟨rfl, hb2⟩
      have hst2 := hst w2 hb2
      have hO2 := hO0.later hb2
      clear hst hb2 hp
      go_wp2_with fail
      refine hst2.mono ?_
      rintro e w3 ⟨rfl, hb3⟩
      have hO3 := hO2.later hb3
      obtain ⟨⟨p0, p1⟩, q0, q1⟩ := Own.cellsP (h := (show Own _ w3 (rP w.heap.size [.pointer none, .string ⟨#[]⟩] :: []) from hO3))
      have HS := Lib.hid (hO3.setP zP rfl)
      clear hO0 hO2 hO3 hA hb3 hst2
      unfold zP at *
      go_wp2_with fail
      have cr := HS.out.rangeP rfl
      refine bodyPost_ret (v := .tuple #[.agg zP.toArray, .int .i64 8]) (ret_cell_tmp Tryz.results65 rfl rfl cr Tryz.underlying115 rfl hi) rfl ?_
      exact ⟨rfl, HS.out.below⟩
    | some nd =>
      rw [hS] at hE hst
      dsimp only at hE
      obtain ⟨i, hmem⟩ := stand_mem hS
      have hdir : ∀ w3, Below w.heap.size w w3 → Calls Tryz.prog 58 #[.pointer (some ⟨nd.b, 0, none⟩)] w3 fun e w' => e = .returned (.bool nd.k.isSome) ∧ w3 = w' := fun w3 hb3 => dir_any ((H.later hb3).node _ hmem)
      dsimp only [ptrOf] at hst
      clear hS H H1 G hmem
      generalize (walkT T 1 ini).getD 0 = j at *
      rcases Bool.eq_false_or_eq_true nd.k.isSome with hk | hk
      · rw [hk] at hE hdir
        simp only [Bool.false_eq_true, if_true, if_false] at hE
        rw [hE]
        dsimp only [placeL]
        clear hE hk
        go_enter Tryz.func65, Tryz.ntmps65
        go_wp2_with fail
        refine hp.mono ?_
        rintro e w2 ⟨rfl, hb2⟩
        have hst2 := hst w2 hb2
        have hO2 := hO0.later hb2
        clear hst hb2 hp
        go_wp2_with fail
        refine hst2.mono ?_
        rintro e w3 ⟨rfl, hb3⟩
        have hO3 := hO2.later hb3
        have hd3 := hdir w3 hO3.below
        obtain ⟨⟨p0, p1⟩, q0, q1⟩ := Own.cellsP (h := (show Own _ w3 (rP w.heap.size [.pointer none, .string ⟨#[]⟩] :: []) from hO3))
        have HS := Lib.hid (hO3.setP [.pointer (some ⟨nd.b, 0, none⟩), .string (toB z)] rfl)
        clear hO0 hO2 hO3 hA hb3 hst2 hdir
        unfold zP at *
        go_wp2_with (go_at_call 58; refine hd3.mono ?_; rintro e w' ⟨rfl, rfl⟩)
        have cr := HS.out.rangeP rfl
        refine bodyPost_ret (v := .tuple #[.agg ([.pointer (some ⟨nd.b, 0, none⟩), .string (toB z)] : List Value).toArray, .int .i64 0]) (ret_cell_tmp Tryz.results65 rfl rfl cr Tryz.underlying115 rfl hi) rfl ?_
        exact ⟨rfl, HS.out.below⟩
      · rw [hk] at hE hdir
        simp only [Bool.false_eq_true, if_true, if_false] at hE
        rw [hE]
        dsimp only [placeL]
        clear hE hk
        go_enter Tryz.func65, Tryz.ntmps65
        go_wp2_with fail
        refine hp.mono ?_
        rintro e w2 ⟨rfl, hb2⟩
        have hst2 := hst w2 hb2
        have hO2 := hO0.later hb2
        clear hst hb2 hp
        go_wp2_with fail
        refine hst2.mono ?_
        rintro e w3 ⟨rfl, hb3⟩
        have hO3 := hO2.later hb3
        have hd3 := hdir w3 hO3.below
        obtain ⟨⟨p0, p1⟩, q0, q1⟩ := Own.cellsP (h := (show Own _ w3 (rP w.heap.size [.pointer none, .string ⟨#[]⟩] :: []) from hO3))
        have HS := Lib.hid (hO3.setP zP rfl)
        clear hO0 hO2 hO3 hA hb3 hst2 hdir
        unfold zP at *
        go_wp2_with (go_at_call 58; refine hd3.mono ?_; rintro e w' ⟨rfl, rfl⟩)
        have cr := HS.out.rangeP rfl
        refine bodyPost_ret (v := .tuple #[.agg (zP : List Value).toArray, .int .i64 11]) (ret_cell_tmp Tryz.results65 rfl rfl cr Tryz.underlying115 rfl hi) rfl ?_
        exact ⟨rfl, HS.out.below⟩
end Go.Proofs.YtdjoahhcmkedhaaGreatDoor
end

/- Clone. -/
section
namespace Go.Proofs.YtdjoahhcmkedhaaGreatDoor
open Go.RowKit
open Go.ChangeMaps (setBlock)
set_option linter.unusedVariables false
set_option linter.unusedSimpArgs false
set_option maxRecDepth 100000

theorem mapclone_any (b : Nat) (es : Array MapEntry) (clock : Nat) (w : World) (hb : w.heap[b]? = some (.map es clock)) :
    Calls Tryz.prog 56 #[.map (some b)] w fun e w' => e = .returned (.map (some w.heap.size)) ∧ w' = w.alloc (.map es clock) := by
  have hq := fun w => run_eql_map_nil_sl (P := Tryz.prog) w 84 _ _ (some b) Tryz.underlying84
  go_enter Tryz.func56, Tryz.ntmps56
  go_wp2_with fail
  rw [run_callFunc_extern Tryz.func80 (by kernel_rfl) (by kernel_rfl) (by kernel_rfl) (e := Extern.MapsClone.clone) (by kernel_rfl), run_maps_clone_sl w 84 hb]
  simp only [Result.andThen]
  rw [Oper.upon_value]
  go_wp2_with fail
  rw [run_typeAssert_map_sl _ 84 20 _ _ _ Tryz.underlying84]
  simp only [Result.andThen]
  rw [Oper.upon_value]
  go_wp2_with fail
  go_ret
  exact ⟨rfl, rfl⟩
theorem mapclone_nil (w : World) :
    Calls Tryz.prog 56 #[.map none] w fun e w' => e = .returned (.map none) ∧ w = w' := by
  have hq := fun w => run_eql_map_nil_sl (P := Tryz.prog) w 84 _ _ none Tryz.underlying84
  go_enter Tryz.func56, Tryz.ntmps56
  go_wp2_with fail
  go_ret
  exact ⟨rfl, rfl⟩
/-- A node without its blocks. -/
structure ENd where
  dir : Bool
  kids : List (ByteArray × Int)
  data : List Int
  places : Int
def Nd.er (n : Nd) : ENd := ⟨n.k.isSome, n.kids, n.data, n.places⟩
def erL (l : List (Int × Nd)) : List (Int × ENd) := l.map fun p => (p.1, p.2.er)
/-- Going through a tree's nodes by the iterator at r, where what lay in w's blocks is as it was. -/
def WalksR (w : World) (r : Nat) (T : Tr) (oi o : Obj) (done left : List (Int × Nd)) (wr : World) : Prop :=
  wr.heap[r]? = some oi ∧ w.heap[T.bm]? = some o ∧ IterO KI oi T.bm o (nodesV T) (ndV left) ∧ (done ++ left).Perm T.nodes ∧ Below w.heap.size w wr ∧ w.heap.size ≤ r
theorem WalksR.next {w wr : World} {r : Nat} {T : Tr} {oi o : Obj} {done left : List (Int × Nd)} (h : WalksR w r T oi o done left wr) :
    (left = [] ∧ ∀ ty, (Instr.next (.pointer (some ⟨r, 0, none⟩)) false ty).run Tryz.prog wr = .ok (.tuple #[.bool false]) wr) ∨
    ∃ (l1 l2 : List (Int × Nd)) (p : Int × Nd) (oi' : Obj) (w1 : World), left = l1 ++ p :: l2 ∧ (w1 = wr ∨ w1 = wr.drew) ∧ (∀ ty, (Instr.next (.pointer (some ⟨r, 0, none⟩)) false ty).run Tryz.prog wr = .ok (.tuple #[.bool true, .int .i64 p.1, .pointer (some ⟨p.2.b, 0, none⟩)]) (setBlock w1 r oi')) ∧
      WalksR w r T oi' o (done ++ [p]) (l1 ++ l2) (setBlock w1 r oi') ∧ p ∈ T.nodes ∧
      (∀ u : World, u.heap[r]? = some oi' → u.heap[T.bm]? = some o → (Instr.entry (.pointer (some ⟨r, 0, none⟩))).run Tryz.prog u = .ok (.tuple #[.int .i64 p.1, .pointer (some ⟨p.2.b, 0, none⟩)]) u) := by
  obtain ⟨h1, h2, h3, h4, h5, h6⟩ := h
  have hlt := lt_of_heap h2
  have h2' : wr.heap[T.bm]? = some o := (h5.block _ hlt).trans h2
  rcases h3.next (P := Tryz.prog) 0 h1 h2' with ⟨g1, g2⟩ | ⟨x, y, z, w1, oi', g1, g2, g3, g4, g5⟩
  · left
    have : left = [] := List.map_eq_nil_iff.1 g1
    exact ⟨this, fun ty => g2⟩
  · right
    obtain ⟨l1, p, l2, e1, e2, e3, e4⟩ := ndV_split g1
    have hb1 : Below w.heap.size w w1 := by rcases g2 with rfl | rfl; exact h5; exact h5.drew
    have hlt1 : r < w1.heap.size := by rcases g2 with rfl | rfl <;> exact lt_of_heap h1
    obtain ⟨s1, s2, s3⟩ := setBlock_heap w1 r oi' hlt1
    refine ⟨l1, l2, p, oi', w1, e1, g2, fun ty => by rw [show (Instr.next (.pointer (some ⟨r, 0, none⟩)) false ty) = (Instr.next (.pointer (some ⟨r, 0, none⟩)) false 0) from rfl, g3, e3], ⟨s1, h2, by rw [show ndV (l1 ++ l2) = x ++ z by rw [← e2, ← e4]; simp [ndV]]; exact g4, ?_, below_setBlock hb1 h6 _, h6⟩, ?_, fun u hu hu2 => by rw [g5 u hu hu2, e3]⟩
    · refine List.Perm.trans ?_ h4
      rw [e1]
      simp only [List.append_assoc, List.singleton_append]
      exact (List.perm_middle.symm).append_left done
    · exact h4.subset (by rw [e1]; simp)
theorem WalksR.tree {w wr : World} {r : Nat} {D : Value → List Int → Prop} {t : Nat} {T : Tr} {oi o : Obj} {done left : List (Int × Nd)} (h : WalksR w r T oi o done left wr) (H : TreeIn (inW w) D t T) : TreeIn (inW wr) D t T := H.later h.2.2.2.2.1
theorem WalksR.entry {w wr : World} {r : Nat} {T : Tr} {oi o : Obj} {done left : List (Int × Nd)} (h : WalksR w r T oi o done left wr) : wr.heap[r]? = some oi ∧ wr.heap[T.bm]? = some o := ⟨h.1, (h.2.2.2.2.1.block _ (lt_of_heap h.2.1)).trans h.2.1⟩
theorem WalksR.left_eq {w wr : World} {r : Nat} {T : Tr} {oi o : Obj} {done left : List (Int × Nd)} (h : WalksR w r T oi o done left wr) : leftN wr T.bm r = left.length := by
  obtain ⟨e1, e2⟩ := h.entry
  obtain ⟨es, clock, since, seen, c0, rfl, rfl, _, _, _, _, _, _, h7⟩ := h.2.2.1
  have := congrArg List.length h7
  simp only [leftN, e1, e2]
  simpa [ndV] using this
theorem WalksR.key {w wr : World} {r : Nat} {T : Tr} {oi o : Obj} {done l : List (Int × Nd)} {p : Int × Nd} (h : WalksR w r T oi o (done ++ [p]) l wr) (G : (T.nodes.map (·.1)).Nodup) : p.1 ∉ done.map (·.1) := by
  have h1 := (h.2.2.2.1.map (·.1)).nodup_iff.2 G
  rw [List.append_assoc, List.map_append] at h1
  intro hm
  exact (List.nodup_append.1 h1).2.2 _ hm p.1 (by simp) rfl
/-- A tree that is being made: its blocks are apart, and new. -/
structure Part (S : Blocks) (D : Value → List Int → Prop) (c : Nat) (T : Tr) (B : Nat) : Prop where
  at_ : TreeIn (inS S) D c T
  apart : (c :: T.foot).Nodup
  high : ∀ b ∈ c :: T.foot, B ≤ b
theorem put_new {α β : Type} [DecidableEq α] {m : List (α × β)} {a : α} (h : a ∉ m.map (·.1)) (v : β) : put m a v = m ++ [(a, v)] := by
  induction m with
  | nil => rfl
  | cons p r ih =>
    simp only [List.map_cons, List.mem_cons, not_or] at h
    unfold put
    rw [if_neg (fun e => h.1 e.symm), ih h.2]; rfl
theorem foot_put {T : Tr} {i : Int} {n : Nd} (h : i ∉ T.nodes.map (·.1)) : (T.setN i n).foot = T.foot ++ n.foot := by
  unfold Tr.foot Tr.setN
  rw [put_new h, List.flatMap_append]; simp
theorem nodesV_put {T : Tr} {i : Int} {n : Nd} (h : i ∉ T.nodes.map (·.1)) : nodesV (T.setN i n) = put (nodesV T) i (.pointer (some ⟨n.b, 0, none⟩)) := by
  have h2 : i ∉ (nodesV T).map (·.1) := by unfold nodesV; rw [List.map_map]; exact h
  rw [put_new h2]
  unfold nodesV Tr.setN
  rw [put_new h]; simp
/-- One more node of new blocks: what its map's update makes. -/
theorem Part.add {S S2 : Blocks} {D : Value → List Int → Prop} {c B N : Nat} {T : Tr} (H : Part S D c T B) {i : Int} (hi : i ∉ T.nodes.map (·.1)) {n : Nd} {o : Obj} (ho : MapO KI o (put (nodesV T) i (.pointer (some ⟨n.b, 0, none⟩))))
    (hS : ∀ b x, (b, x) ∈ S → b ≠ T.bm → (b, x) ∈ S2) (hbm : (T.bm, o) ∈ S2) (hN : NodeIn (inS S2) D n) (hlow : ∀ b ∈ c :: T.foot, b < N) (hnew : ∀ b ∈ n.foot, N ≤ b ∧ B ≤ b) (hnd : n.foot.Nodup) : Part S2 D c (T.setN i n) B := by
  have hap := H.apart
  have hcb : c ≠ T.bm := fun e => (List.nodup_cons.1 hap).1 (by rw [e]; exact List.mem_cons_self ..)
  have hnb : ∀ p ∈ T.nodes, ∀ b ∈ p.2.foot, b ≠ T.bm := fun p hp b hb e => (List.nodup_cons.1 (List.nodup_cons.1 hap).2).1 (e ▸ List.mem_flatMap.2 ⟨p, hp, hb⟩)
  refine ⟨⟨hS _ _ H.at_.cells hcb, ⟨o, hbm, by rw [nodesV_put hi]; exact ho⟩, fun p hp => ?_⟩, ?_, ?_⟩
  · unfold Tr.setN at hp
    rw [put_new hi] at hp
    rcases List.mem_append.1 hp with hp | hp
    · exact (H.at_.node p hp).mono (fun b x hb hx => hS _ _ hx (hnb p hp b hb)) (fun _ _ h => h)
    · rw [List.mem_singleton.1 hp]; exact hN
  · rw [foot_put hi, ← List.cons_append]
    refine List.nodup_append.2 ⟨hap, hnd, fun a ha b hb e => ?_⟩
    have h1 := hlow a ha
    have h2 := (hnew b hb).1
    omega
  · intro b hb
    rw [foot_put hi, ← List.cons_append] at hb
    rcases List.mem_append.1 hb with hb | hb
    · exact H.high b hb
    · exact (hnew b hb).2
theorem Part.mono {S S2 : Blocks} {D : Value → List Int → Prop} {c B : Nat} {T : Tr} (H : Part S D c T B) (hS : ∀ b x, b ∈ c :: T.foot → (b, x) ∈ S → (b, x) ∈ S2) : Part S2 D c T B := ⟨H.at_.mono (fun b x hb hx => hS b x hb hx) (fun _ _ h => h), H.apart, H.high⟩
theorem kept_in {h : Nat → Obj → Prop} {D : Value → List Int → Prop} {t : Nat} {T : Tr} (H : TreeIn h D t T) : ∀ b ∈ t :: T.foot, ∃ o, h b o := by
  intro b hb
  rcases List.mem_cons.1 hb with rfl | hb
  · exact ⟨_, H.cells⟩
  · rcases List.mem_cons.1 hb with rfl | hb
    · obtain ⟨o, h1, _⟩ := H.map; exact ⟨o, h1⟩
    · obtain ⟨p, hp, hb⟩ := List.mem_flatMap.1 hb
      have hN := H.node p hp
      rcases List.mem_cons.1 hb with rfl | hb
      · exact ⟨_, hN.cells⟩
      · have : p.2.k = some b := by
          cases hk : p.2.k with
          | none => rw [hk] at hb; simp at hb
          | some k => rw [hk] at hb; simp at hb; rw [hb]
        obtain ⟨o, h1, _⟩ := hN.kid b this
        exact ⟨o, h1⟩
def Added (w0 : World) (S2 : Blocks) (L : List Rw) (D : Value → List Int → Prop) (c B : Nat) (T : Tr) (i : Int) (n : Nd) (b : Nat) (W : World) : Prop :=
  ∃ o S5 n', (Instr.mapUpdate 73 (.map (some T.bm)) (.int .i64 i) (.pointer (some ⟨b, 0, none⟩))).run Tryz.prog W = .ok () (setBlock W T.bm o) ∧ Own ⟨w0, S5⟩ (setBlock W T.bm o) L ∧ Part S5 D c (T.setN i n') B ∧ n'.er = n.er ∧ (∀ b x, (b, x) ∈ S2 → b ≠ T.bm → (b, x) ∈ S5) ∧
    (∀ b ∈ c :: (T.setN i n').foot, b ∈ c :: T.foot ∨ ∀ x, (b, x) ∉ S2)
theorem add_dir {w0 w2 : World} {S2 : Blocks} {L : List Rw} {D : Value → List Int → Prop} {c B : Nat} {T : Tr} (hO : Own ⟨w0, S2⟩ w2 L) (P : Part S2 D c T B) {i : Int} (hi : i ∉ T.nodes.map (·.1)) (hB : B ≤ w2.heap.size) {n : Nd} {k : Nat} (hk : n.k = some k) {es : Array MapEntry} {clock : Nat}
    (hm : MapO KS (.map es clock) (kidsV n.kids)) (hD : D n.dv n.data) (hf : ∃ a c, n.dv = .slice a n.data.length c) :
    Added w0 S2 L D c B T i n (w2.heap.size + 1) ((w2.alloc (.map es clock)).alloc (.cells #[.map (some w2.heap.size), n.dv, .int .i64 n.places] 86)).drew := by
  have h3 := hO.newB (.map es clock)
  have h4 := (h3.newB (.cells #[.map (some w2.heap.size), n.dv, .int .i64 n.places] 86)).drew
  rw [show (w2.alloc (.map es clock)).heap.size = w2.heap.size + 1 by simp] at h4
  obtain ⟨o1, m1, m2⟩ := P.at_.map
  have hlow : ∀ b ∈ c :: T.foot, b < w2.heap.size := fun b hb => by
    obtain ⟨x, hx⟩ := kept_in P.at_ b hb
    exact (hO.atLt hx).2
  have hbm : T.bm < w2.heap.size := hlow _ (List.mem_cons_of_mem _ (List.mem_cons_self ..))
  have m1' := List.mem_cons_of_mem (w2.heap.size + 1, Obj.cells #[.map (some w2.heap.size), n.dv, .int .i64 n.places] 86) (List.mem_cons_of_mem (w2.heap.size, Obj.map es clock) m1)
  obtain ⟨o, hup, hm2⟩ := m2.update kindsI Tryz.underlying73 (h4.at m1') i (.pointer (some ⟨w2.heap.size + 1, 0, none⟩))
  have h5 := h4.setB m1' o
  refine ⟨o, _, ⟨w2.heap.size + 1, some w2.heap.size, n.kids, n.dv, n.data, n.places⟩, hup, h5, P.add hi hm2 (fun b x hb hne => upd_other (List.mem_cons_of_mem _ (List.mem_cons_of_mem _ hb)) hne _) (upd_same m1' o) ?_ hlow ?_ ?_, ?_, fun b x hb hne => upd_other (List.mem_cons_of_mem _ (List.mem_cons_of_mem _ hb)) hne _, ?_⟩
  · refine ⟨upd_other (List.mem_cons_self ..) (by show w2.heap.size + 1 ≠ _; omega) _, fun k2 hk2 => ?_, (fun h => by cases h), hD, hf⟩
    have : w2.heap.size = k2 := by injection hk2
    subst this
    exact ⟨_, upd_other (List.mem_cons_of_mem _ (List.mem_cons_self ..)) (by omega) _, hm⟩
  · intro b hb
    have : b ∈ [w2.heap.size + 1, w2.heap.size] := hb
    simp at this; omega
  · show ([w2.heap.size + 1, w2.heap.size] : List Nat).Nodup
    simp
  · unfold Nd.er; rw [hk]; rfl
  · intro b hb
    rw [foot_put hi, ← List.cons_append] at hb
    rcases List.mem_append.1 hb with hb | hb
    · exact .inl hb
    · right
      intro x hx
      have h1 := (hO.atLt hx).2
      have : b ∈ [w2.heap.size + 1, w2.heap.size] := hb
      simp at this; omega
theorem add_file {w0 w2 : World} {S2 : Blocks} {L : List Rw} {D : Value → List Int → Prop} {c B : Nat} {T : Tr} (hO : Own ⟨w0, S2⟩ w2 L) (P : Part S2 D c T B) {i : Int} (hi : i ∉ T.nodes.map (·.1)) (hB : B ≤ w2.heap.size) {n : Nd} (hk : n.k = none) (hkids : n.kids = [])
    (hD : D n.dv n.data) (hf : ∃ a c, n.dv = .slice a n.data.length c) :
    Added w0 S2 L D c B T i n w2.heap.size (w2.alloc (.cells #[.map none, n.dv, .int .i64 n.places] 86)).drew := by
  have h4 := (hO.newB (.cells #[.map none, n.dv, .int .i64 n.places] 86)).drew
  obtain ⟨o1, m1, m2⟩ := P.at_.map
  have hlow : ∀ b ∈ c :: T.foot, b < w2.heap.size := fun b hb => by
    obtain ⟨x, hx⟩ := kept_in P.at_ b hb
    exact (hO.atLt hx).2
  have hbm : T.bm < w2.heap.size := hlow _ (List.mem_cons_of_mem _ (List.mem_cons_self ..))
  have m1' := List.mem_cons_of_mem (w2.heap.size, Obj.cells #[.map none, n.dv, .int .i64 n.places] 86) m1
  obtain ⟨o, hup, hm2⟩ := m2.update kindsI Tryz.underlying73 (h4.at m1') i (.pointer (some ⟨w2.heap.size, 0, none⟩))
  have h5 := h4.setB m1' o
  refine ⟨o, _, ⟨w2.heap.size, none, n.kids, n.dv, n.data, n.places⟩, hup, h5, P.add hi hm2 (fun b x hb hne => upd_other (List.mem_cons_of_mem _ hb) hne _) (upd_same m1' o) ?_ hlow ?_ ?_, ?_, fun b x hb hne => upd_other (List.mem_cons_of_mem _ hb) hne _, ?_⟩
  · exact ⟨upd_other (List.mem_cons_self ..) (by show w2.heap.size ≠ _; omega) _, (fun k2 hk2 => by cases hk2), (fun _ => hkids), hD, hf⟩
  · intro b hb
    have : b ∈ [w2.heap.size] := hb
    simp at this; omega
  · show ([w2.heap.size] : List Nat).Nodup
    simp
  · unfold Nd.er; rw [hk]
  · intro b hb
    rw [foot_put hi, ← List.cons_append] at hb
    rcases List.mem_append.1 hb with hb | hb
    · exact .inl hb
    · right
      intro x hx
      have h1 := (hO.atLt hx).2
      have : b ∈ [w2.heap.size] := hb
      simp at this; omega
end Go.Proofs.YtdjoahhcmkedhaaGreatDoor
end

/- Clone: the walk. -/
section
namespace Go.Proofs.YtdjoahhcmkedhaaGreatDoor
open Go.RowKit
open Go.ChangeMaps (setBlock)
set_option linter.unusedVariables false
set_option linter.unusedSimpArgs false
set_option maxRecDepth 100000

/-- The same tree, but for its blocks and the order of its nodes. -/
structure Same (T T' : Tr) : Prop where
  quota : T'.quota = T.quota
  next : T'.next = T.next
  nodes : (erL T'.nodes).Perm (erL T.nodes)
theorem er_mem {l : List (Int × Nd)} {p : Int × Nd} (h : p ∈ l) : (p.1, p.2.er) ∈ erL l := List.mem_map.2 ⟨p, h, rfl⟩
theorem er_of {l : List (Int × Nd)} {q : Int × ENd} (h : q ∈ erL l) : ∃ p ∈ l, p.1 = q.1 ∧ p.2.er = q.2 := by
  obtain ⟨p, hp, e⟩ := List.mem_map.1 h
  exact ⟨p, hp, by rw [← e], by rw [← e]⟩
theorem erL_keys (l : List (Int × Nd)) : (erL l).map (·.1) = l.map (·.1) := by unfold erL; rw [List.map_map]; rfl
theorem Same.keys {T T' : Tr} (h : Same T T') : (T'.nodes.map (·.1)).Perm (T.nodes.map (·.1)) := by
  have := h.nodes.map (·.1)
  rwa [erL_keys, erL_keys] at this
theorem Same.look {T T' : Tr} (h : Same T T') (G : Good T) (i : Int) : (look T'.nodes i).map Nd.er = (look T.nodes i).map Nd.er := by
  have hk := h.keys
  have hn : (T'.nodes.map (·.1)).Nodup := hk.nodup_iff.2 G.keys
  cases h1 : Go.Proofs.YtdjoahhcmkedhaaGreatDoor.look T.nodes i with
  | some n =>
    obtain ⟨p, hp, e1, e2⟩ := er_of (h.nodes.symm.subset (er_mem (look_mem h1)))
    have := look_of_mem hn hp
    rw [show p.1 = i from e1] at this
    rw [this]
    exact congrArg some e2
  | none =>
    cases h2 : Go.Proofs.YtdjoahhcmkedhaaGreatDoor.look T'.nodes i with
    | none => rfl
    | some n =>
      obtain ⟨p, hp, e1, e2⟩ := er_of (h.nodes.subset (er_mem (look_mem h2)))
      have := look_of_mem G.keys hp
      rw [show p.1 = i from e1, h1] at this
      cases this
theorem Same.good {T T' : Tr} (h : Same T T') (G : Good T) : Good T' := by
  have hl := fun i => h.look G i
  refine ⟨h.keys.nodup_iff.2 G.keys, ?_, fun p hp q hq => ?_, fun p hp => ?_⟩
  · obtain ⟨n, k, h1, h2⟩ := G.root
    have := hl 1
    rw [h1] at this
    cases h3 : Go.Proofs.YtdjoahhcmkedhaaGreatDoor.look T'.nodes 1 with
    | none => rw [h3] at this; cases this
    | some m =>
      rw [h3] at this
      have h4 : m.er = n.er := by injection this
      have h5 : m.k.isSome = n.k.isSome := congrArg ENd.dir h4
      rw [h2] at h5
      cases hk : m.k with
      | none => rw [hk] at h5; cases h5
      | some k' => exact ⟨m, k', rfl, hk⟩
  · obtain ⟨p0, hp0, e1, e2⟩ := er_of (h.nodes.subset (er_mem hp))
    have hkids : p0.2.kids = p.2.kids := congrArg ENd.kids e2
    obtain ⟨n, hn⟩ := G.kids p0 hp0 q (hkids ▸ hq)
    have := hl q.2
    rw [hn] at this
    cases h3 : Go.Proofs.YtdjoahhcmkedhaaGreatDoor.look T'.nodes q.2 with
    | none => rw [h3] at this; cases this
    | some m => exact ⟨m, rfl⟩
  · obtain ⟨p0, hp0, e1, e2⟩ := er_of (h.nodes.subset (er_mem hp))
    have := G.low p0 hp0
    rw [show p0.1 = p.1 from e1] at this
    rw [h.next]; exact this
theorem Part.tree {S : Blocks} {D : Value → List Int → Prop} {c B : Nat} {T T' : Tr} (H : Part S D c T' B) (h : Same T T') (G : Good T) : Tree S D c T' := ⟨H.at_, H.apart, h.good G⟩
def CloneAt (w0 : World) (S : Blocks) (L : List Rw) (D : Value → List Int → Prop) (T : Tr) (w : World) (e : Ending) (w' : World) : Prop :=
  ∃ c S' T', e = .returned (.pointer (some ⟨c, 0, none⟩)) ∧ Own ⟨w0, S'⟩ w' L ∧ Tree S' D c T' ∧ (∀ b x, (b, x) ∈ S → (b, x) ∈ S') ∧ (∀ b ∈ c :: T'.foot, w.heap.size ≤ b) ∧ Same T T'
def CloneRel (w0 : World) (S : Blocks) (L : List Rw) (D : Value → List Int → Prop) (T : Tr) (w : World) (r c : Nat) (wr : World) : Prop :=
  ∃ oi o done left S' T', WalksR w r T oi o done left wr ∧ Own ⟨w0, S'⟩ wr L ∧ (r, oi) ∈ S' ∧ Part S' D c T' w.heap.size ∧ r ∉ c :: T'.foot ∧ T'.quota = T.quota ∧ T'.next = T.next ∧ T'.bm = w.heap.size ∧ erL T'.nodes = erL done ∧ (∀ b x, (b, x) ∈ S → (b, x) ∈ S')
theorem clone_round {w0 w w2 W4 : World} {S S2 : Blocks} {L : List Rw} {D : Value → List Int → Prop} {T T' : Tr} {r c b : Nat} {oi' o : Obj} {done l : List (Int × Nd)} {p : Int × Nd} (HO : Own ⟨w0, S⟩ w L) (hW' : WalksR w r T oi' o (done ++ [p]) l w2) (hr2 : (r, oi') ∈ S2) (hrn : r ∉ c :: T'.foot)
    (hq : T'.quota = T.quota) (hx : T'.next = T.next) (hbm : T'.bm = w.heap.size) (he : erL T'.nodes = erL done) (hi : p.1 ∉ T'.nodes.map (·.1)) (hsub2 : ∀ b x, (b, x) ∈ S → (b, x) ∈ S2) (hA : Added w0 S2 L D c w.heap.size T' p.1 p.2 b W4) (hBW : Below w.heap.size w W4) :
    ∃ W5, (Instr.mapUpdate 73 (.map (some T'.bm)) (.int .i64 p.1) (.pointer (some ⟨b, 0, none⟩))).run Tryz.prog W4 = .ok () W5 ∧ CloneRel w0 S L D T w r c W5 ∧ leftN W5 T.bm r = l.length := by
  obtain ⟨o5, S5, n', hup, hO5, hP5, hn, hk5, hf5⟩ := hA
  have hrb : r ≠ T'.bm := fun e => hrn (by rw [e]; exact List.mem_cons_of_mem _ (List.mem_cons_self ..))
  have hr5 := hk5 _ _ hr2 hrb
  have hW5 : WalksR w r T oi' o (done ++ [p]) l (setBlock W4 T'.bm o5) := ⟨hO5.at hr5, hW'.2.1, hW'.2.2.1, hW'.2.2.2.1, below_setBlock hBW (by omega) _, hW'.2.2.2.2.2⟩
  refine ⟨_, hup, ⟨oi', o, _, _, S5, T'.setN p.1 n', hW5, hO5, hr5, hP5, fun hm => ?_, hq, hx, hbm, ?_, fun b x hb => hk5 b x (hsub2 b x hb) fun e => ?_⟩, hW5.left_eq⟩
  · rcases hf5 r hm with h1 | h1
    · exact hrn h1
    · exact h1 _ hr2
  · unfold Tr.setN
    rw [put_new hi]
    unfold erL at he ⊢
    rw [List.map_append, List.map_append, he]
    simp only [List.map_cons, List.map_nil]
    rw [hn]
  · have := (HO.atLt hb).2
    omega
set_option maxHeartbeats 1000000 in
theorem clone_t {w0 w : World} {S : Blocks} {L : List Rw} {D : Value → List Int → Prop} {t : Nat} {T : Tr} (hO : Own ⟨w0, S⟩ w L) (H : Tree S D t T) :
    Calls Tryz.prog 23 #[.pointer (some ⟨t, 0, none⟩)] w (CloneAt w0 S L D T w) := by
  obtain ⟨c0, c1, c2⟩ := (H.at_.inWorld hO).at0
  obtain ⟨a0, a1, a2⟩ := (H.at_.inWorld (hO.alloc (.map #[] 0)).drew).at0
  have hmk : ∀ w, (Instr.makeMap 73 none).run Tryz.prog w = .ok (.map (some w.heap.size)) (w.alloc (.map #[] 0)) := fun w => rfl
  have hO1 := hO.newB (.map #[] 0)
  have hO2 := (hO1.newB (.cells #[.int .i64 T.quota, .int .i64 T.next, .map (some w.heap.size)] 75)).drew
  have es : (w.alloc (.map #[] 0)).heap.size = w.heap.size + 1 := by simp
  rw [es] at hO2
  have hP : Part ((w.heap.size + 1, .cells #[.int .i64 T.quota, .int .i64 T.next, .map (some w.heap.size)] 75) :: (w.heap.size, .map #[] 0) :: S) D (w.heap.size + 1) ⟨w.heap.size, T.quota, T.next, []⟩ w.heap.size :=
    ⟨⟨List.mem_cons_self .., ⟨_, List.mem_cons_of_mem _ (List.mem_cons_self ..), MapO.empty KI⟩, fun p hp => by cases hp⟩, by show ([w.heap.size + 1, w.heap.size] : List Nat).Nodup; simp, fun b hb => by
      have : b ∈ [w.heap.size + 1, w.heap.size] := hb
      simp at this; omega⟩
  obtain ⟨wa, hwa⟩ : ∃ wa, wa = ((w.alloc (.map #[] 0)).alloc (.cells #[.int .i64 T.quota, .int .i64 T.next, .map (some w.heap.size)] 75)).drew := ⟨_, rfl⟩
  have hBa : Below w.heap.size w wa := by
    rw [hwa]
    exact (((Below.refl _ w).alloc (Nat.le_refl _) _).alloc (by simp) _).drew
  rw [← hwa] at hO2
  have hsa : wa.heap.size = w.heap.size + 2 := by rw [hwa]; show ((w.alloc _).alloc _).heap.size = _; simp
  have HA := H.at_.inWorld (hO2.forget (S' := S) fun m hm => List.mem_cons_of_mem _ (List.mem_cons_of_mem _ hm))
  obtain ⟨_, _, b2⟩ := HA.at0
  obtain ⟨oi, o, hrun, hW⟩ := Walks.start HA
  have hWR : WalksR w wa.heap.size T oi o [] T.nodes (wa.alloc oi) := by
    obtain ⟨o2, h1, _⟩ := (H.at_.inWorld hO).map
    have h2 : w.heap[T.bm]? = some o := ((hBa.block _ (lt_of_heap h1)).symm).trans hW.2.1
    exact ⟨hW.1, h2, hW.2.2.1, hW.2.2.2.1, hBa.alloc hBa.size _, hBa.size⟩
  have HR := Lib.hid (show CloneRel w0 S L D T w wa.heap.size (w.heap.size + 1) (wa.alloc oi) from
    ⟨oi, o, [], T.nodes, _, _, hWR, hO2.newB oi, List.mem_cons_self .., hP.mono (fun b x _ hx => List.mem_cons_of_mem _ hx), by
      rw [hsa]
      show w.heap.size + 2 ∉ [w.heap.size + 1, w.heap.size]
      simp, rfl, rfl, rfl, rfl, fun b x hb => List.mem_cons_of_mem _ (List.mem_cons_of_mem _ (List.mem_cons_of_mem _ hb))⟩)
  have HH := Lib.hid (H.at_.inWorld hO)
  have HT := Lib.hid H
  have HO := Lib.hid hO
  clear hO hO1 hO2 hP HA hW H es hsa hBa hWR
  generalize wa.heap.size = r at *
  go_enter Tryz.func23, Tryz.ntmps23
  go_wp2_with fail
  go_region
  rw [← hwa]
  clear hwa a0 a1 a2 c0 c1 c2
  go_wp2_with fail
  go_loopw [] (fun wr => CloneRel w0 S L D T w r (w.heap.size + 1) wr) (fun wr => leftN wr T.bm r)
  case atStart => exact HR.out
  case round =>
    obtain ⟨oi2, o2, done, left, S', T', hW, hO, hr, hP, hrn, hq, hx, hbm, he, hsub⟩ := hrel
    have hle := hW.left_eq
    have hperm := hW.2.2.2.1
    rcases hW.next with ⟨rfl, hn⟩ | ⟨l1, l2, p, oi', w1, rfl, hw1, hn, hW', hp, hen⟩
    · have hS : Same T T' := ⟨hq, hx, by rw [he]; simp only [List.append_nil] at hperm; exact hperm.map _⟩
      have HC := Lib.hid (show CloneAt w0 S L D T w (.returned (.pointer (some ⟨w.heap.size + 1, 0, none⟩))) wr from ⟨_, S', T', rfl, hO, hP.tree hS HT.out.good, hsub, hP.high, hS⟩)
      clear hW hle hperm hO hr hP hrn hq hx he hsub hS
      go_wp2_with fail
      go_ret
      exact HC.out
    · have hO1 : Own ⟨w0, S'⟩ w1 L := by rcases hw1 with rfl | rfl; exact hO; exact hO.drew
      have hO2 := hO1.setB hr oi'
      have hP2 : Part (upd S' r oi') D (w.heap.size + 1) T' w.heap.size := hP.mono (fun b x hb hx => upd_other (b := r) hx (fun e => hrn (e ▸ hb)) oi')
      have hr2 := upd_same hr oi'
      have hsub2 : ∀ b x, (b, x) ∈ S → (b, x) ∈ upd S' r oi' := fun b x hb => upd_other (hsub b x hb) (fun e => by
        have h1 := (HO.out.atLt hb).2
        have h2 := hW'.2.2.2.2.2
        omega) _
      have hNw := (hW'.tree HH.out).node p hp
      have hNs := HT.out.at_.node p hp
      obtain ⟨e1, e2⟩ := hW'.entry
      have hent := hen _ e1 e2
      have hi : p.1 ∉ T'.nodes.map (·.1) := by
        have h1 := congrArg (List.map (·.1)) he
        rw [erL_keys, erL_keys] at h1
        rw [h1]
        exact hW'.key HT.out.good.keys
      have hlen : leftN wr T.bm r = (l1 ++ l2).length + 1 := by rw [hle]; simp; omega
      have hB2 := hW'.2.2.2.2.1
      generalize hw2 : setBlock w1 r oi' = w2 at *
      obtain ⟨fa, fc, hf⟩ := hNw.form
      obtain ⟨d0, d1, d2⟩ := hNw.at0
      rw [hf] at d1
      obtain ⟨_, _, q2⟩ := (hP2.at_.inWorld hO2).at0
      have hA : ∀ (wy : World) (o : Obj), Below w2.heap.size w2 wy → Below w2.heap.size w2 (wy.alloc o) := fun wy o h => h.alloc h.size _
      have HO2 := Lib.hid hO2
      have HP2 := Lib.hid hP2
      have hS : ∀ w', Below w2.heap.size w2 w' → w'.cell? ⟨w.heap.size + 1, 2, none⟩ = some (.map (some T'.bm)) ∧ w'.cell? ⟨p.2.b, 0, none⟩ = some (.map p.2.k) ∧ w'.cell? ⟨p.2.b, 1, none⟩ = some (.slice fa p.2.data.length fc) ∧ w'.cell? ⟨p.2.b, 2, none⟩ = some (.int .i64 p.2.places) := fun w' hb => by
        have hN5 : NodeIn (inW w') D p.2 := hNw.mono (fun b o _ ho => (hb.block _ (lt_of_heap ho)).trans ho) (fun _ _ h => h)
        obtain ⟨g0, g1, g2⟩ := hN5.at0
        rw [hf] at g1
        exact ⟨((HP2.out.at_.inWorld HO2.out).later hb).at0.2.2, g0, g1, g2⟩
      cases hk : p.2.k with
      | some k =>
        rw [hk] at d0
        simp only [hk] at hS
        obtain ⟨o5, hk1, hk2⟩ := hNw.kid k hk
        obtain ⟨es, clock, rfl, hk3⟩ := id hk2
        have hcl := mapclone_any k es clock w2.drew hk1
        obtain ⟨W5, hup, hr5, hl5⟩ := clone_round (c := w.heap.size + 1) HO.out hW' hr2 hrn hq hx hbm he hi hsub2 (add_dir HO2.out HP2.out hi hB2.size hk hk2 hNs.dat hNs.form) (((hB2.alloc hB2.size _).alloc (by simp; have := hB2.size; omega) _).drew)
        rw [hf] at hup
        have HR5 := Lib.hid hr5
        have hS5 : W5.cell? ⟨w.heap.size + 1, 2, none⟩ = some (.map (some T'.bm)) ∧ W5.cell? ⟨p.2.b, 0, none⟩ = some (.map (some k)) ∧ W5.cell? ⟨p.2.b, 1, none⟩ = some (.slice fa p.2.data.length fc) ∧ W5.cell? ⟨p.2.b, 2, none⟩ = some (.int .i64 p.2.places) := by
          obtain ⟨_, _, _, _, S7, T7, x1, x2, _, x3, _, _, _, x4, _⟩ := hr5
          obtain ⟨g0, g1, g2⟩ := ((x1.tree HH.out).node p hp).at0
          rw [hf] at g1
          rw [hk] at g0
          have := (x3.at_.inWorld x2).at0.2.2
          rw [x4.trans hbm.symm] at this
          exact ⟨this, g0, g1, g2⟩
        have HL := Lib.hid (show leftN W5 T.bm r < leftN wr T.bm r by rw [hl5, hlen]; omega)
        clear hO hO1 hO2 hP hP2 hsub hW hW' hNw hNs hen hk3 hk2 hperm hle hr hrn hr2 hsub2 hi e1 e2 hr5 hB2 hl5 hbm hq hx he hlen hk1
        go_wp2_with fail
        go_region_held3 (fun w' : World => w'.cell? ⟨w.heap.size + 1, 2, none⟩ = some (.map (some T'.bm)) ∧ w'.cell? ⟨p.2.b, 0, none⟩ = some (.map (some k)) ∧ w'.cell? ⟨p.2.b, 1, none⟩ = some (.slice fa p.2.data.length fc) ∧ w'.cell? ⟨p.2.b, 2, none⟩ = some (.int .i64 p.2.places)) (first | exact hS5 | exact hS _ (Below.refl _ _) | exact hS _ (Below.refl _ w2).drew | exact hS _ (hA _ _ (Below.refl w2.heap.size w2).drew) | exact hS _ (hA _ _ (hA _ _ (Below.refl w2.heap.size w2).drew))) (first | (go_at_call 56; refine hcl.mono ?_; rintro e w3 ⟨rfl, rfl⟩))
        all_goals go_wp2_with fail
        all_goals go_roundw
        all_goals first | exact HR5.out | exact HL.out
      | none =>
        rw [hk] at d0
        simp only [hk] at hS
        have hcl := mapclone_nil w2.drew
        obtain ⟨W5, hup, hr5, hl5⟩ := clone_round (c := w.heap.size + 1) HO.out hW' hr2 hrn hq hx hbm he hi hsub2 (add_file HO2.out HP2.out hi hB2.size hk (hNs.file hk) hNs.dat hNs.form) ((hB2.alloc hB2.size _).drew)
        rw [hf] at hup
        have HR5 := Lib.hid hr5
        have hS5 : W5.cell? ⟨w.heap.size + 1, 2, none⟩ = some (.map (some T'.bm)) ∧ W5.cell? ⟨p.2.b, 0, none⟩ = some (.map none) ∧ W5.cell? ⟨p.2.b, 1, none⟩ = some (.slice fa p.2.data.length fc) ∧ W5.cell? ⟨p.2.b, 2, none⟩ = some (.int .i64 p.2.places) := by
          obtain ⟨_, _, _, _, S7, T7, x1, x2, _, x3, _, _, _, x4, _⟩ := hr5
          obtain ⟨g0, g1, g2⟩ := ((x1.tree HH.out).node p hp).at0
          rw [hf] at g1
          rw [hk] at g0
          have := (x3.at_.inWorld x2).at0.2.2
          rw [x4.trans hbm.symm] at this
          exact ⟨this, g0, g1, g2⟩
        have HL := Lib.hid (show leftN W5 T.bm r < leftN wr T.bm r by rw [hl5, hlen]; omega)
        clear hO hO1 hO2 hP hP2 hsub hW hW' hNw hNs hen hperm hle hr hrn hr2 hsub2 hi e1 e2 hr5 hB2 hl5 hbm hq hx he hlen
        go_wp2_with fail
        go_region_held3 (fun w' : World => w'.cell? ⟨w.heap.size + 1, 2, none⟩ = some (.map (some T'.bm)) ∧ w'.cell? ⟨p.2.b, 0, none⟩ = some (.map none) ∧ w'.cell? ⟨p.2.b, 1, none⟩ = some (.slice fa p.2.data.length fc) ∧ w'.cell? ⟨p.2.b, 2, none⟩ = some (.int .i64 p.2.places)) (first | exact hS5 | exact hS _ (Below.refl _ _) | exact hS _ (Below.refl _ w2).drew | exact hS _ (hA _ _ (Below.refl w2.heap.size w2).drew)) (first | (go_at_call 56; refine hcl.mono ?_; rintro e w3 ⟨rfl, rfl⟩))
        all_goals go_wp2_with fail
        all_goals go_roundw
        all_goals first | exact HR5.out | exact HL.out
end Go.Proofs.YtdjoahhcmkedhaaGreatDoor
end

/- Package rec: what makes parts. -/
section
namespace Go.Proofs.YtdjoahhcmkedhaaGreatDoor
open Go.RowKit
set_option linter.unusedVariables false
set_option maxRecDepth 100000
set_option linter.unusedSimpArgs false

theorem info_u : (Tryz.prog.info? 5).map (fun i => (i.zero, i.size, i.bytes)) = some (some (.int .u8 0), 1, 1) := by kernel_rfl

theorem num_any (n : Int) (w : World) (h0 : 0 ≤ n) (h1 : n < 4294967296) :
    Calls Tryz.prog 48 #[.int .i64 n] w fun e w' => ∃ v, e = .returned v ∧ Own w w' [rowU v (le4 n)] := by
  go_enter Tryz.func48, Tryz.ntmps48
  go_wp2_with fail
  go_ret
  exact ⟨_, rfl, (Own.start w).made 5 1 #[.int .u8 (n % 256), .int .u8 (n / 256 % 256), .int .u8 (n / 65536 % 256), .int .u8 (n / 16777216)] 4 rfl (by unfold maxLen; decide)⟩

/-- slices.Grow of nil. -/
theorem grow_zero (w : World) : Calls Tryz.prog 97 #[.slice none 0 0, .int .i64 0] w fun e w' => e = .returned (.slice none 0 0) ∧ w = w' := by
  go_enter Tryz.func97, Tryz.ntmps97
  go_wp2_with fail
  go_ret
  exact ⟨rfl, rfl⟩
theorem grow_pos (n : Nat) (w : World) (h0 : 0 < n) (h1 : n ≤ 140737488355328) : Calls Tryz.prog 97 #[.slice none 0 0, .int .i64 (n : Int)] w fun e w' => ∃ v, e = .returned v ∧ Own w w' [rowU v []] := by
  obtain ⟨i0, hi, hz0, hz1, hz2⟩ := info_parts info_u
  have hrz : ∀ ty, (Builtin.append_ #[97, 3] ty #[.slice none 0 0, .int .i64 (n : Int)]).run Tryz.prog w =
      .ok (.slice (some ⟨w.heap.size, 0, none⟩) n (grownCap w n 0 5)) (w.drew.alloc (.cells (#[] ++ Builtin.zeroCells (Value.int .u8 0).cells n ++ Builtin.zeroCells (Value.int .u8 0).cells (grownCap w n 0 5 - n)) 5)) := fun ty => by
    have h := Lib.run_append_grow_zeros w 97 3 ty 5 i0 (.int .u8 0) .i64 .i64 Tryz.underlying97 Tryz.underlying3 hi hz0 none 0 0 [] (run_firstCells_none w.drew i0.size 0 0 0) n h0 (by omega) (by omega) (by omega) (by rw [hz2]; omega) (growslice_fits (by omega) (by rw [hz2]; omega))
    simpa using h
  have hge : n ≤ grownCap w n 0 5 := grownCap_ge w _ _ _
  have hle : grownCap w n 0 5 ≤ maxLen := grownCap_le_maxLen w n 0 _ (by unfold maxLen; omega)
  obtain ⟨G, hG⟩ : ∃ G, G = grownCap w n 0 5 := ⟨_, rfl⟩
  rw [← hG] at hrz hge hle
  have hO := World.ownsRow_made (base := w.heap.size) (e := 5) (size := 1) w.drew (#[] ++ Builtin.zeroCells (Value.int .u8 0).cells n ++ Builtin.zeroCells (Value.int .u8 0).cells (G - n)) G (Nat.le_refl _) hle (by simp [Builtin.zeroCells, Value.cells]; omega)
  generalize (#[] ++ Builtin.zeroCells (Value.int .u8 0).cells n ++ Builtin.zeroCells (Value.int .u8 0).cells (G - n)) = C at *
  have hO2 : Own w (w.drew.alloc (.cells C 5)) [rowU (.slice (some ⟨w.heap.size, 0, none⟩) 0 G) []] := ⟨(Own.start w).drew.alloc (.cells C 5) |>.below, fun p hp => by rw [List.mem_singleton.1 hp]; exact hO, List.pairwise_singleton _ _, (fun m hm => by cases hm), (fun m hm => by cases hm)⟩
  have HO := Lib.hid hO2
  have hG63 : G ≤ 9223372036854775807 := by unfold maxLen at hle; omega
  clear hG hO hO2 hle
  go_enter Tryz.func97, Tryz.ntmps97
  go_wp2_with (at_builtin; refine Lib.wpList_append_run _ rfl _ _ _ _ rfl _ _ rfl rfl _ _ (hrz _) ?_)
  go_ret
  exact ⟨_, rfl, HO.out⟩

/-- Parts: slice values that read as bytes. -/
def Parts (w : World) (a : Option Addr) (PS : List (Value × List Int)) : Prop :=
  ∀ i (h : i < PS.length), ∃ g o, a = some ⟨g, o, none⟩ ∧ w.cell? ⟨g, o + i, none⟩ = some PS[i].1 ∧ By w PS[i].1 PS[i].2
def allOf (PS : List (Value × List Int)) : List Int := (PS.map (·.2)).flatten
theorem allOf_take_succ (PS : List (Value × List Int)) (i : Nat) (h : i < PS.length) : allOf (PS.take (i + 1)) = allOf (PS.take i) ++ PS[i].2 := by
  unfold allOf
  rw [List.take_succ_eq_append_getElem h]
  simp only [List.map_append, List.map_cons, List.map_nil, List.flatten_append, List.flatten_cons, List.flatten_nil, List.append_nil]
theorem allOf_take_le (PS : List (Value × List Int)) (i : Nat) : (allOf (PS.take i)).length ≤ (allOf PS).length := by
  have h : allOf PS = allOf (PS.take i) ++ allOf (PS.drop i) := by
    unfold allOf
    rw [← List.flatten_append, ← List.map_append, List.take_append_drop]
  rw [h, List.length_append]; omega
theorem Parts.later {w w' : World} {a : Option Addr} {PS : List (Value × List Int)} (h : Parts w a PS) (hb : Below w.heap.size w w') : Parts w' a PS := by
  intro i hi
  obtain ⟨g, o, ha, hc, hy⟩ := h i hi
  exact ⟨g, o, ha, (hb.cell (p := ⟨g, o + i, none⟩) (World.block_lt_of_cell? w _ hc)).trans hc, hy.later hb⟩
theorem Parts.byts {w : World} {a : Option Addr} {PS : List (Value × List Int)} (h : Parts w a PS) : Byts (allOf PS) := by
  intro z hz
  obtain ⟨l, hl, hz⟩ := List.mem_flatten.1 hz
  obtain ⟨p, hp, rfl⟩ := List.mem_map.1 hl
  obtain ⟨i, hi, rfl⟩ := List.getElem_of_mem hp
  obtain ⟨g, o, _, _, hy⟩ := h i hi
  exact hy.2.1 z hz

set_option maxHeartbeats 1600000 in
theorem concat_any (a : Option Addr) (c : Nat) (PS : List (Value × List Int)) (w : World) (hP : Parts w a PS) (hn : PS.length ≤ maxLen) (hl : (allOf PS).length ≤ 140737488355328) :
    Calls Tryz.prog 75 #[.slice a PS.length c] w fun e w' => ∃ v, e = .returned v ∧ Own w w' [rowU v (allOf PS)] := by
  unfold maxLen at hn
  have HP := Lib.hid hP
  have Hl := Lib.hid hl
  clear hP hl
  go_enter Tryz.func75, Tryz.ntmps75
  go_wp2_with fail
  go_loop [3, 11] (fun t i => ∃ k : Nat, k ≤ PS.length ∧ i = .int .i64 k ∧ t = .int .i64 ((allOf (PS.take k)).length : Int)) (fun _ i => PS.length - (intOf i).toNat)
  case atStart => exact ⟨0, Nat.zero_le _, rfl, rfl⟩
  case round =>
    obtain ⟨k, hk, rfl, rfl⟩ := hrel
    by_cases hlt : k < PS.length
    · obtain ⟨g, o, rfl, hc, _, _, ga, gc, hv, hv1, hv2⟩ := HP.out k hlt
      have HS := Lib.hid (congrArg List.length (allOf_take_succ PS k hlt))
      have hs1 := allOf_take_le PS k
      have hs2 := allOf_take_le PS (k + 1)
      have hs3 : (allOf (PS.take (k + 1))).length = (allOf (PS.take k)).length + (PS[k].2).length := by rw [HS.out, List.length_append]
      have hs4 : (((allOf (PS.take k)).length : Nat) : Int) + (((PS[k].2).length : Nat) : Int) ≤ 140737488355328 := by have := Hl.out; omega
      have HS3 := Lib.hid hs3
      rw [hv] at hc
      clear hs3 hv
      generalize (allOf (PS.take k)).length = m at *
      generalize (PS[k].2).length = m2 at *
      go_wp2_with fail
      exact ⟨⟨k + 1, by omega, by go_num, by rw [HS3.out]; go_num⟩, by simp [intOf]; omega⟩
    · obtain rfl : k = PS.length := by omega
      have hl := Hl.out
      have HT := Lib.hid (show allOf (PS.take PS.length) = allOf PS by rw [List.take_length])
      rw [HT.out]
      obtain ⟨i0, hi, hz0, hz1, hz2⟩ := info_parts info_u
      have hm0 : (0 : Int) ≤ ((allOf PS).length : Int) := by omega
      clear HT
      obtain ⟨n, hn2⟩ : ∃ n, (allOf PS).length = n := ⟨_, rfl⟩
      rw [hn2] at hm0 hl ⊢
      have Hn2 := Lib.hid hn2
      clear hn2
      go_wp2_with fail
      refine (show Calls Tryz.prog 97 #[.slice none 0 0, .int .i64 (n : Int)] w fun e w' => ∃ v, e = .returned v ∧ Own w w' [rowU v []] from ?_).mono ?_
      · rcases Nat.eq_zero_or_pos n with h0 | h0
        · rw [h0]; exact (grow_zero w).mono fun e w' ⟨h1, h2⟩ => ⟨_, h1, h2 ▸ (Own.start w).nil _ _⟩
        · exact grow_pos n w h0 hl
      rintro e w1 ⟨v, rfl, hO1⟩
      have HO1 := Lib.hid hO1
      obtain ⟨va, vc, rfl, _, _⟩ := Own.sized (h := hO1)
      clear hO1
      go_wp2_with fail
      go_loopw [6, 27] (fun t i wr => ∃ k : Nat, k ≤ PS.length ∧ i = .int .i64 k ∧ Own w wr [rowU t (allOf (PS.take k))]) (fun _ i _ => PS.length - (intOf i).toNat)
      case atStart => exact ⟨0, Nat.zero_le _, rfl, HO1.out⟩
      case round =>
        obtain ⟨k, hk, rfl, hO⟩ := hrel
        by_cases hlt : k < PS.length
        · obtain ⟨g, o, rfl, hc, hy⟩ := (HP.out.later hO.below) k hlt
          have hys := hy.1
          have HS := Lib.hid (allOf_take_succ PS k hlt)
          have hs2 := allOf_take_le PS (k + 1)
          have hs3 : (allOf (PS.take (k + 1))).length = (allOf (PS.take k)).length + (PS[k].2).length := by rw [HS.out, List.length_append]
          have hsum : (allOf (PS.take k)).length + (PS[k].2).length ≤ 140737488355328 := by have := Hl.out; omega
          have Hsum := Lib.hid hsum
          have HO := Lib.hid hO
          have Hys := Lib.hid hys
          clear hs2 hs3 hO hy hys hsum
          generalize PS[k].2 = zk at *
          generalize PS[k].1 = vk at *
          go_wp2_with (at_builtin; refine wpList_append_src rfl (.tmp 31) (.tmp 32) 97 rfl _ (allOf (PS.take k)).length (bs (allOf (PS.take k))) vk zk.length (bs zk) rfl rfl HO.out i0 (.int .u8 0) 1 Tryz.underlying97 hi hz0 hz1 hz2 rfl (by decide) Hys.out (by rw [bs_length, Nat.mul_one]) (by have := Hsum.out; unfold maxLen; omega) (by have := Hsum.out; omega) ?_)
          intro v' w' hO'
          rw [← bs_append, ← HS.out] at hO'
          have HO' := Lib.hid (show Own w w' [rowU v' (allOf (PS.take (k + 1)))] by unfold rowU; rw [HS.out, List.length_append, ← HS.out]; exact hO')
          clear hO' Hsum
          go_wp2_with fail
          exact ⟨⟨k + 1, by omega, by go_num, HO'.out⟩, by simp [intOf]; omega⟩
        · obtain rfl : k = PS.length := by omega
          rw [List.take_length] at hO
          have HO := Lib.hid hO
          clear hO
          go_wp2_with fail
          go_ret
          exact ⟨_, rfl, HO.out⟩

theorem cell_of_block {w : World} {g : Nat} {C : Array Value} {e : TypeId} {mk : Nat × Nat} (h : w.heap[g]? = some (.cells C e mk)) (j : Nat) : w.cell? ⟨g, j, none⟩ = C[j]? := by
  unfold World.cell?
  rw [h]
  rfl
theorem parts_list (w : World) (T : TypeId) (PS : List (Value × List Int)) (h : ∀ p ∈ PS, By w p.1 p.2) (H : Nat) (hH : H = w.heap.size) : Parts (w.alloc (.cells (PS.map (·.1)).toArray T)) (some ⟨H, 0, none⟩) PS := by
  subst hH
  intro i hi
  refine ⟨w.heap.size, 0, rfl, ?_, (h _ (List.getElem_mem hi)).later (Below.alloc (Below.refl _ _) (Nat.le_refl _) _)⟩
  rw [Nat.zero_add]
  have h1 : (w.alloc (.cells (PS.map (·.1)).toArray T)).heap[w.heap.size]? = some (.cells (PS.map (·.1)).toArray T) := heap_alloc_new w _
  rw [cell_of_block h1]
  simp [hi]
theorem allOf_two (u v : Value) (a b : List Int) : allOf [(u, a), (v, b)] = a ++ b := by simp [allOf]
theorem allOf_one (u : Value) (a : List Int) : allOf [(u, a)] = a := by simp [allOf]

theorem pack_any (a : Option Addr) (c : Nat) (PS : List (Value × List Int)) (w : World) (hP : Parts w a PS) (hn : PS.length ≤ maxLen) (hl : (allOf PS).length ≤ 140737488355328) :
    Calls Tryz.prog 51 #[.slice a PS.length c] w fun e w' => ∃ v, e = .returned v ∧ Own w w' [rowU v (allOf PS)] := by
  have HP := Lib.hid hP
  have Hl := Lib.hid hl
  clear hP hl
  go_enter Tryz.func51, Tryz.ntmps51
  go_wp2_with fail
  refine (concat_any a c PS _ HP.out hn Hl.out).mono ?_
  rintro e w1 ⟨v, rfl, hO⟩
  have HO := Lib.hid hO
  clear hO
  go_wp2_with fail
  go_ret
  exact ⟨_, rfl, HO.out⟩

def sizedL (zs : List Int) : List Int := le4 zs.length ++ zs
theorem sizedL_length (zs : List Int) : (sizedL zs).length = zs.length + 4 := by simp [sizedL, le4]
theorem sizedL_byts (zs : List Int) (h : Byts zs) (hl : zs.length < 4294967296) : Byts (sizedL zs) := (le4_byts _ (by omega) (by omega)).append h

set_option maxHeartbeats 800000 in
theorem raw_any (v : Value) (zs : List Int) (w : World) (h : By w v zs) (hl : zs.length < 4294967296) :
    Calls Tryz.prog 50 #[v] w fun e w' => ∃ v', e = .returned v' ∧ Own w w' [rowU v' (sizedL zs)] := by
  have Hy := Lib.hid h
  obtain ⟨_, _, a, c, rfl, _, _⟩ := h
  go_enter Tryz.func50, Tryz.ntmps50
  go_wp2_with fail
  refine (num_any (zs.length : Int) w (by omega) (by omega)).mono ?_
  rintro e w1 ⟨vn, rfl, hO1⟩
  have HO1 := Lib.hid hO1
  obtain ⟨na, nc, rfl, _, _⟩ := Own.sized (h := hO1)
  clear hO1
  go_wp2_with fail
  refine (pack_any (some ⟨w1.heap.size, 0, none⟩) 2 [(.slice na (le4 zs.length).length nc, le4 zs.length), (.slice a zs.length c, zs)] _ (parts_list w1 97 _ ?_ _ rfl) (by simp [maxLen]) (by rw [allOf_two]; simp [le4]; omega)).mono ?_
  · intro p hp
    rcases List.mem_cons.1 hp with rfl | hp
    · exact HO1.out.by (le4_byts _ (by omega) (by omega))
    · obtain rfl := List.mem_singleton.1 hp
      exact Hy.out.later HO1.out.below
  rintro e w2 ⟨v2, rfl, hO2⟩
  rw [allOf_two] at hO2
  have HO := Lib.hid (((HO1.out.alloc _).join hO2).only (List.mem_append_left _ (List.mem_cons_self ..)))
  clear hO2
  go_wp2_with fail
  go_ret
  exact ⟨_, rfl, HO.out⟩

theorem by_of_string (w : World) (s : ByteArray) (G : Nat) (hs : s.size ≤ G) (hG : G ≤ maxLen) (mk : Nat × Nat) :
    By (w.drew.alloc (.cells (bytesRow s G) 5 mk)) (.slice (some ⟨w.heap.size, 0, none⟩) s.size G) (sb s) := by
  have hl := sb_length s
  refine ⟨?_, sb_byts s, some ⟨w.heap.size, 0, none⟩, G, by rw [hl], by rw [hl]; exact hs, hG⟩
  rw [hl]
  refine .inr ⟨_, G, rfl, fun j u hj => ?_, bs_one _⟩
  rw [Addr.add_mid, Nat.zero_add]
  have h1 : (w.drew.alloc (.cells (bytesRow s G) 5 mk)).heap[w.heap.size]? = some (.cells (bytesRow s G) 5 mk) := heap_alloc_new w.drew _
  have hlt : j < s.size := by
    rcases Nat.lt_or_ge j s.size with h2 | h2
    · exact h2
    · rw [List.getElem?_eq_none (by rw [bs_length, hl]; exact h2)] at hj; cases hj
  have hlt' : j < s.data.size := hlt
  rw [cell_of_block h1]
  simp [bs, sb, hlt'] at hj
  obtain ⟨x, hx, rfl⟩ := hj
  obtain ⟨_, rfl⟩ := Array.getElem?_eq_some_iff.1 hx
  simp [bytesRow, Array.getElem?_append, hlt]

set_option maxHeartbeats 800000 in
theorem text_any (s : ByteArray) (w : World) (hl : s.size < 4294967296) :
    Calls Tryz.prog 49 #[.string s] w fun e w' => ∃ v', e = .returned v' ∧ Own w w' [rowU v' (sizedL (sb s))] := by
  go_enter Tryz.func49, Tryz.ntmps49
  go_wp2_with fail
  refine (num_any (s.size : Int) w (by omega) (by omega)).mono ?_
  rintro e w1 ⟨vn, rfl, hO1⟩
  have HO1 := Lib.hid hO1
  obtain ⟨na, nc, rfl, _, _⟩ := Own.sized (h := hO1)
  have hconv := run_bytes_of_string (P := Tryz.prog) w1 9 97 5 s Tryz.underlying9 Tryz.underlying97 Tryz.underlying5
  have hge : s.size ≤ grownCap w1 s.size 0 5 := grownCap_ge w1 _ _ _
  have hle : grownCap w1 s.size 0 5 ≤ maxLen := grownCap_le_maxLen w1 s.size 0 _ (by unfold maxLen; omega)
  generalize grownCap w1 s.size 0 5 = G at *
  have HB := Lib.hid (show By (w1.alloc (.cells (bytesRow s G) 5 ((bytesRow s G).size, (bytesRow s G).size + 1))) _ _ from by_of_string w1 s G hge hle ((bytesRow s G).size, (bytesRow s G).size + 1))
  have HO2 := Lib.hid (HO1.out.alloc (.cells (bytesRow s G) 5 ((bytesRow s G).size, (bytesRow s G).size + 1)))
  generalize (bytesRow s G).size = q at *
  generalize bytesRow s G = C at *
  have hP : Parts ((w1.alloc (.cells C 5 (q, q + 1))).alloc (.cells #[.slice na (le4 s.size).length nc, .slice (some ⟨w1.heap.size, 0, none⟩) s.size G] 97)).drew (some ⟨w1.heap.size + 1, 0, none⟩) [(.slice na (le4 s.size).length nc, le4 s.size), (.slice (some ⟨w1.heap.size, 0, none⟩) s.size G, sb s)] := by
    refine parts_list (w1.alloc (.cells C 5 (q, q + 1))) 97 [(.slice na (le4 s.size).length nc, le4 s.size), (.slice (some ⟨w1.heap.size, 0, none⟩) s.size G, sb s)] ?_ _ (by simp)
    intro p hp
    rcases List.mem_cons.1 hp with rfl | hp
    · exact Own.by HO2.out (le4_byts _ (by omega) (by omega))
    · obtain rfl := List.mem_singleton.1 hp
      exact HB.out
  have HP := Lib.hid hP
  clear hP
  clear hO1 hge hle HO1
  go_wp2_with fail
  refine (pack_any (some ⟨w1.heap.size + 1, 0, none⟩) 2 [(.slice na (le4 s.size).length nc, le4 s.size), (.slice (some ⟨w1.heap.size, 0, none⟩) s.size G, sb s)] _ HP.out (by simp [maxLen]) (by rw [allOf_two]; simp [le4, sb_length]; omega)).mono ?_
  rintro e w2 ⟨v2, rfl, hO3⟩
  rw [allOf_two] at hO3
  have HO := Lib.hid (((HO2.out.alloc _).drew.join hO3).only (List.mem_append_left _ (List.mem_cons_self ..)))
  clear hO3
  go_wp2_with fail
  go_ret
  exact ⟨_, rfl, by unfold sizedL; rw [sb_length]; exact HO.out⟩
end Go.Proofs.YtdjoahhcmkedhaaGreatDoor
end
