/- place: where something may stand. -/
import Derived.Test.YtamkfadammlhbaaGreatDoorTree6
import Derived.Test.YtamkfadammlhbaaGreatDoorPMath2
namespace Go.Proofs.YtamkfadammlhbaaGreatDoor
open Go.RowKit
open Go.ChangeMaps (setBlock)
set_option linter.unusedVariables false
set_option linter.unusedSimpArgs false
set_option maxRecDepth 100000

theorem ret_cell_tmp {P : Program} {fn : Func} {p u : Tmp} {ty : TypeId} (h : fn.results = #[.cell p ty, .tmp u]) {tmps : Array Value} {w : World} {b : Nat} {cs : List Value} {v : Value} {d : TypeDesc} (hp : tmps.getD p undef = .pointer (some ⟨b, 0, none⟩)) (hu : tmps.getD u undef = v)
    (hr : w.rangeAt b 0 cs) (ht : P.underlying ty = some d) (hd : d.isRow = true) (hi : (P.info? ty).map (·.size) = some cs.length) : (results fn tmps).run P w = .ok (.tuple #[.agg cs.toArray, v]) w := by
  rw [results_cell_tmp h, hp, hu]
  have e : (asAddr (.pointer (some ⟨b, 0, none⟩))).run P w = .ok ⟨b, 0, none⟩ w := rfl
  rw [e]
  simp only [Result.andThen_ok, run_loadVar_mid w b 0 ty cs d hr ht hd hi]
def rP (g : Nat) (xs : List Value) : Rw := ⟨115, 2, .slice (some ⟨g, 0, none⟩) 1 1, 1, xs⟩
def zP : List Value := [.pointer none, .string ⟨#[]⟩]
theorem Own.boxP {W0 : Base} {w : World} {L : List Rw} (h : Own W0 w L) (xs : List Value) (hx : xs.length = 2) (g : Nat) (hg : g = w.heap.size) : Own W0 (w.alloc (.cells xs.toArray 115)) (rP g xs :: L) :=
  h.made_at 115 2 xs.toArray 1 g hg (by simp [hx]) (by unfold maxLen; decide)
theorem Own.setP {W0 : Base} {w : World} {g : Nat} {xs : List Value} {L : List Rw} (h : Own W0 w (rP g xs :: L)) (ys : List Value) (hx : xs.length = ys.length) : Own W0 (w.setCells g 0 ys) (rP g ys :: L) := by
  have h1 := Own.setCells (h := h) ys 0
  rw [splice_all' xs ys hx] at h1
  exact h1
theorem Own.rangeP {W0 : Base} {w : World} {g : Nat} {xs : List Value} {L : List Rw} (h : Own W0 w (rP g xs :: L)) (hx : xs.length = 2) : w.rangeAt g 0 xs := by
  have h1 := Own.range (h := h) 0 2
  rw [List.drop_zero, ← hx, List.take_length] at h1
  exact h1
theorem Own.cellsP {W0 : Base} {w : World} {g : Nat} {a b : Value} {L : List Rw} (h : Own W0 w (rP g [a, b] :: L)) :
    (w.cell? ⟨g, 0, none⟩ = some a ∧ w.cell? ⟨g, 1, none⟩ = some b) ∧ w.frozen? ⟨g, 0, none⟩ = false ∧ w.frozen? ⟨g, 1, none⟩ = false :=
  ⟨⟨Own.cell (h := h) 0 (by decide), Own.cell (h := h) 1 (by decide)⟩, Own.free (h := h) 0, Own.free (h := h) 1⟩
theorem built_place : Tryz.prog.built 115 [] = some zP.toArray := by kernel_rfl
theorem info_place : (Tryz.prog.info? 115).map (·.size) = some 2 := by kernel_rfl

/-- Where something may stand: a directory's number, the directory, a name; or what is wrong. -/
def placeT (T : Tr) (l : List UInt8) : Int × Option (Int × Nd × List UInt8) := match (namesL l).getLast? with
  | none => (14, none)
  | some z => match walkT T 1 (namesL l).dropLast with
    | none => (8, none)
    | some j => match look T.nodes j with
      | none => (8, none)
      | some nd => if nd.k.isSome then (0, some (j, nd, z)) else (11, none)
def placeL : Option (Int × Nd × List UInt8) → List Value
  | none => zP
  | some (_, nd, z) => [.pointer (some ⟨nd.b, 0, none⟩), .string (toB z)]
theorem findT_parent {T : Tr} {l : List UInt8} {ini : List (List UInt8)} {z : List UInt8} (h : namesL l = ini ++ [z]) : findT T (joinL ini) = walkT T 1 ini := by
  obtain ⟨h1, h2⟩ := parent_path h
  unfold findT
  rw [h1, h2]; rfl
theorem placeT_yes (T : Tr) {l : List UInt8} {ini : List (List UInt8)} {z : List UInt8} (h : namesL l = ini ++ [z]) : placeT T l = match standT T (joinL ini) with
    | none => (8, none)
    | some nd => if nd.k.isSome then (0, some ((walkT T 1 ini).getD 0, nd, z)) else (11, none) := by
  unfold placeT standT
  rw [findT_parent h, h]
  simp only [List.getLast?_append, List.getLast?_singleton, Option.some_or, List.dropLast_concat]
  cases walkT T 1 ini with
  | none => rfl
  | some j => rfl
set_option maxHeartbeats 1000000 in
theorem place_any {w : World} {D : Value → List Int → Prop} {t : Nat} {T : Tr} (H : TreeIn (inW w) D t T) (G : Good T) (s : ByteArray) (hs : s.size ≤ maxLen) (hm : Mx w) :
    Calls Tryz.prog 65 #[.pointer (some ⟨t, 0, none⟩), .string s] w fun e w' => e = .returned (.tuple #[.agg (placeL (placeT T s.data.toList).2).toArray, .int .i64 (placeT T s.data.toList).1]) ∧ Below w.heap.size w w' := by
  have hb := built_place
  have hi := info_place
  have hO0 := (Own.start w).boxP zP rfl w.heap.size rfl
  have hA : Below w.heap.size w (w.alloc (.cells zP.toArray 115)) := hO0.below
  have hm1 := hm.later hA
  have H1 := H.later hA
  rcases List.eq_nil_or_concat (namesL s.data.toList) with h0 | ⟨ini, z, h0⟩
  · have hE : placeT T s.data.toList = (14, none) := by unfold placeT; rw [h0]; rfl
    have hp := parent_no s _ hs hm1 h0
    rw [hE]
    dsimp only [placeL]
    clear hE h0 H H1 G
    go_enter Tryz.func65, Tryz.ntmps65
    go_wp2_with fail
    refine hp.mono ?_
    rintro e w2 ⟨rfl, hb2⟩
    have hO2 := hO0.later hb2
    obtain ⟨⟨p0, p1⟩, q0, q1⟩ := Own.cellsP (h := (show Own _ w2 (rP w.heap.size [.pointer none, .string ⟨#[]⟩] :: []) from hO2))
    have HS := Lib.hid (hO2.setP zP rfl)
    clear hO0 hO2 hA hb2
    unfold zP at *
    go_wp2_with fail
    have cr := HS.out.rangeP rfl
    refine bodyPost_ret (v := .tuple #[.agg zP.toArray, .int .i64 14]) (ret_cell_tmp Tryz.results65 rfl rfl cr Tryz.underlying115 rfl hi) rfl ?_
    exact ⟨rfl, HS.out.below⟩
  · rw [List.concat_eq_append] at h0
    have hp := parent_yes s _ hs hm1 ini z h0
    have hE := placeT_yes T h0
    obtain ⟨h5, h6⟩ := names_bounds s.data.toList
    rw [h0] at h5 h6
    rw [List.length_append, List.length_singleton] at h5
    have hj := join_size ini 12 (fun n hn => (name_len (h6 n (List.mem_append_left _ hn))).2) (by omega) (by omega)
    have hjs : (toB (joinL ini)).size ≤ maxLen := by rw [toB_size]; unfold joinL maxLen; simp only [List.length_cons]; omega
    have hst : ∀ w2, Below (w.alloc (.cells zP.toArray 115)).heap.size (w.alloc (.cells zP.toArray 115)) w2 → Calls Tryz.prog 57 #[.pointer (some ⟨t, 0, none⟩), .string (toB (joinL ini))] w2 fun e w' => e = .returned (ptrOf (standT T (joinL ini))) ∧ Below w2.heap.size w2 w' := fun w2 hb2 => stands_any (H1.later hb2) G (toB (joinL ini)) hjs (hm1.later hb2)
    clear h5 h6 hj hjs h0
    cases hS : standT T (joinL ini) with
    | none =>
      rw [hS] at hE hst
      dsimp only at hE
      rw [hE]
      dsimp only [placeL, ptrOf] at *
      clear hE hS H H1 G
      go_enter Tryz.func65, Tryz.ntmps65
      go_wp2_with fail
      refine hp.mono ?_
      rintro e w2 ⟨rfl, hb2⟩
      have hst2 := hst w2 hb2
      have hO2 := hO0.later hb2
      clear hst hb2 hp
      go_wp2_with fail
      refine hst2.mono ?_
      rintro e w3 ⟨rfl, hb3⟩
      have hO3 := hO2.later hb3
      obtain ⟨⟨p0, p1⟩, q0, q1⟩ := Own.cellsP (h := (show Own _ w3 (rP w.heap.size [.pointer none, .string ⟨#[]⟩] :: []) from hO3))
      have HS := Lib.hid (hO3.setP zP rfl)
      clear hO0 hO2 hO3 hA hb3 hst2
      unfold zP at *
      go_wp2_with fail
      have cr := HS.out.rangeP rfl
      refine bodyPost_ret (v := .tuple #[.agg zP.toArray, .int .i64 8]) (ret_cell_tmp Tryz.results65 rfl rfl cr Tryz.underlying115 rfl hi) rfl ?_
      exact ⟨rfl, HS.out.below⟩
    | some nd =>
      rw [hS] at hE hst
      dsimp only at hE
      obtain ⟨i, hmem⟩ := stand_mem hS
      have hdir : ∀ w3, Below w.heap.size w w3 → Calls Tryz.prog 58 #[.pointer (some ⟨nd.b, 0, none⟩)] w3 fun e w' => e = .returned (.bool nd.k.isSome) ∧ w3 = w' := fun w3 hb3 => dir_any ((H.later hb3).node _ hmem)
      dsimp only [ptrOf] at hst
      clear hS H H1 G hmem
      generalize (walkT T 1 ini).getD 0 = j at *
      rcases Bool.eq_false_or_eq_true nd.k.isSome with hk | hk
      · rw [hk] at hE hdir
        simp only [Bool.false_eq_true, if_true, if_false] at hE
        rw [hE]
        dsimp only [placeL]
        clear hE hk
        go_enter Tryz.func65, Tryz.ntmps65
        go_wp2_with fail
        refine hp.mono ?_
        rintro e w2 ⟨rfl, hb2⟩
        have hst2 := hst w2 hb2
        have hO2 := hO0.later hb2
        clear hst hb2 hp
        go_wp2_with fail
        refine hst2.mono ?_
        rintro e w3 ⟨rfl, hb3⟩
        have hO3 := hO2.later hb3
        have hd3 := hdir w3 hO3.below
        obtain ⟨⟨p0, p1⟩, q0, q1⟩ := Own.cellsP (h := (show Own _ w3 (rP w.heap.size [.pointer none, .string ⟨#[]⟩] :: []) from hO3))
        have HS := Lib.hid (hO3.setP [.pointer (some ⟨nd.b, 0, none⟩), .string (toB z)] rfl)
        clear hO0 hO2 hO3 hA hb3 hst2 hdir
        unfold zP at *
        go_wp2_with (go_at_call 58; refine hd3.mono ?_; rintro e w' ⟨rfl, rfl⟩)
        have cr := HS.out.rangeP rfl
        refine bodyPost_ret (v := .tuple #[.agg ([.pointer (some ⟨nd.b, 0, none⟩), .string (toB z)] : List Value).toArray, .int .i64 0]) (ret_cell_tmp Tryz.results65 rfl rfl cr Tryz.underlying115 rfl hi) rfl ?_
        exact ⟨rfl, HS.out.below⟩
      · rw [hk] at hE hdir
        simp only [Bool.false_eq_true, if_true, if_false] at hE
        rw [hE]
        dsimp only [placeL]
        clear hE hk
        go_enter Tryz.func65, Tryz.ntmps65
        go_wp2_with fail
        refine hp.mono ?_
        rintro e w2 ⟨rfl, hb2⟩
        have hst2 := hst w2 hb2
        have hO2 := hO0.later hb2
        clear hst hb2 hp
        go_wp2_with fail
        refine hst2.mono ?_
        rintro e w3 ⟨rfl, hb3⟩
        have hO3 := hO2.later hb3
        have hd3 := hdir w3 hO3.below
        obtain ⟨⟨p0, p1⟩, q0, q1⟩ := Own.cellsP (h := (show Own _ w3 (rP w.heap.size [.pointer none, .string ⟨#[]⟩] :: []) from hO3))
        have HS := Lib.hid (hO3.setP zP rfl)
        clear hO0 hO2 hO3 hA hb3 hst2 hdir
        unfold zP at *
        go_wp2_with (go_at_call 58; refine hd3.mono ?_; rintro e w' ⟨rfl, rfl⟩)
        have cr := HS.out.rangeP rfl
        refine bodyPost_ret (v := .tuple #[.agg (zP : List Value).toArray, .int .i64 11]) (ret_cell_tmp Tryz.results65 rfl rfl cr Tryz.underlying115 rfl hi) rfl ?_
        exact ⟨rfl, HS.out.below⟩
end Go.Proofs.YtamkfadammlhbaaGreatDoor
