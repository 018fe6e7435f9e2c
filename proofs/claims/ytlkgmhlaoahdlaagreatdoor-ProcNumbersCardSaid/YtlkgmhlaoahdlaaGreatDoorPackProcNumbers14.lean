/- Texts one behind the other, each in a section of its own: what calls make of memory, step by step. -/
import Derived.Test.YtlkgmhlaoahdlaaGreatDoorPackProcNumbers13
import Derived.Deep.RegionHeld3

/- A table of what runs, beside its volume. -/
section
namespace Go.Proofs.YtlkgmhlaoahdlaaGreatDoor
open Go.RowKit
open Go.ChangeMaps (setBlock)
set_option linter.unusedVariables false
set_option linter.unusedSimpArgs false
set_option maxRecDepth 100000

/-- Something that runs: its block, its unit, its files (as a value, and their numbers), whether it is to end. -/
structure Pr where
  b : Nat
  u : ByteArray
  mv : Value
  maps : List Int
  ends : Bool
def prCells (i : Int) (p : Pr) : Array Value := #[.int .i64 i, .string p.u, p.mv, .bool p.ends]
/-- Numbers in a row of the law's, or none. -/
def PcI (L : List Rw) (v : Value) (zs : List Int) : Prop := (v = .slice none 0 0 ∧ zs = []) ∨ rowI v zs ∈ L
/-- A table: its block, its map's, the number that came last, what runs. -/
structure Tab where
  tb : Nat
  mb : Nat
  last : Int
  runs : List (Int × Pr)
def runsV (m : List (Int × Pr)) : List (Int × Value) := m.map fun p => (p.1, .pointer (some ⟨p.2.b, 0, none⟩))
def filesV (v : Nat) : Value := .iface 24 (.pointer (some ⟨v, 0, none⟩))
def tabCells (v : Nat) (Y : Tab) : Array Value := #[filesV v, .int .i64 Y.last, .map (some Y.mb)]
def Tab.foot (Y : Tab) : List Nat := Y.tb :: Y.mb :: Y.runs.map fun p => p.2.b
structure TabIn (S : Blocks) (L : List Rw) (v : Nat) (Y : Tab) : Prop where
  cells : (Y.tb, .cells (tabCells v Y) 68) ∈ S
  map : ∃ o, (Y.mb, o) ∈ S ∧ MapO KI o (runsV Y.runs)
  run : ∀ p ∈ Y.runs, (p.2.b, .cells (prCells p.1 p.2) 54) ∈ S ∧ PcI L p.2.mv p.2.maps
  apart : Y.foot.Nodup
theorem TabIn.mono {S S' : Blocks} {L L' : List Rw} {v : Nat} {Y : Tab} (h : TabIn S L v Y) (hs : ∀ b x, b ∈ Y.foot → (b, x) ∈ S → (b, x) ∈ S') (hl : ∀ x ∈ L, x ∈ L') : TabIn S' L' v Y := by
  obtain ⟨o, h1, h2⟩ := h.map
  refine ⟨hs _ _ (List.mem_cons_self ..) h.cells, ⟨o, hs _ _ (List.mem_cons_of_mem _ (List.mem_cons_self ..)) h1, h2⟩, fun p hp => ?_, h.apart⟩
  obtain ⟨h3, h4⟩ := h.run p hp
  exact ⟨hs _ _ (List.mem_cons_of_mem _ (List.mem_cons_of_mem _ (List.mem_map.2 ⟨p, hp, rfl⟩))) h3, h4.imp id (hl _)⟩
/-- A volume and a table over it, apart, beside blocks and rows that are known. -/
def VT (w0 : World) (K : Blocks) (L0 : List Rw) (v : Nat) (X : VX) (Y : Tab) (w : World) : Prop :=
  ∃ S R L T, VolIn w0 S R L v X T w ∧ TabIn S L v Y ∧ (∀ b ∈ Y.foot, b ∉ v :: X.hm :: X.t :: T.foot) ∧ (∀ x ∈ L0, x ∈ L) ∧ (∀ b x, (b, x) ∈ K → (b, x) ∈ S ∧ b ∉ v :: X.hm :: X.t :: T.foot ∧ b ∉ Y.foot)
section
variable {w0 w w' : World} {S S' S1 : Blocks} {R L L' L1 M : List Rw} {v c n d : Nat} {X X' X1 X2 : VX} {T T' Tc T1 : Tr} {Y : Tab}
theorem TabIn.lt (h : TabIn S L v Y) (hO : Own ⟨w0, S⟩ w L') : ∀ b ∈ Y.foot, b < w.heap.size := fun b hb => by
  rcases List.mem_cons.1 hb with rfl | hb
  · exact (hO.atLt h.cells).2
  · rcases List.mem_cons.1 hb with rfl | hb
    · obtain ⟨o, h1, _⟩ := h.map
      exact (hO.atLt h1).2
    · obtain ⟨p, hp, rfl⟩ := List.mem_map.1 hb
      exact (hO.atLt (h.run p hp).1).2
theorem TabIn.mem (h : TabIn S L v Y) : ∀ b ∈ Y.foot, ∃ x, (b, x) ∈ S := fun b hb => by
  rcases List.mem_cons.1 hb with rfl | hb
  · exact ⟨_, h.cells⟩
  · rcases List.mem_cons.1 hb with rfl | hb
    · obtain ⟨o, h1, _⟩ := h.map
      exact ⟨o, h1⟩
    · obtain ⟨p, hp, rfl⟩ := List.mem_map.1 hb
      exact ⟨_, (h.run p hp).1⟩
/-- What is neither the volume's nor new stays off the volume. -/
theorem VolTo.off {m : Nat} {b : Nat} (hb : b ∉ v :: X.hm :: X.t :: T.foot) (hm : b < m) (h4 : ∀ b ∈ X.t :: T'.foot, b ∈ X.t :: T.foot ∨ m ≤ b) (h5 : X'.t = X.t) (h6 : X'.hm = X.hm) : b ∉ v :: X'.hm :: X'.t :: T'.foot := fun hx => by
  rw [h5, h6] at hx
  rcases List.mem_cons.1 hx with rfl | hx
  · exact hb (List.mem_cons_self ..)
  · rcases List.mem_cons.1 hx with rfl | hx
    · exact hb (List.mem_cons_of_mem _ (List.mem_cons_self ..))
    · rcases h4 b hx with h7 | h7
      · exact hb (List.mem_cons_of_mem _ (List.mem_cons_of_mem _ h7))
      · omega
variable {L0 : List Rw} {K : Blocks}
/-- A call of the volume leaves the table as it is. -/
theorem VT.vol (h : VT w0 K L0 v X Y w) {f : FuncId} {args : Array Value} {P : Ending → Prop} (hc : ∀ S R L T, VolIn w0 S R L v X T w → Calls Tryz.prog f args w fun e w' => P e ∧ VolTo w0 S L v X T w.heap.size X' w') : Calls Tryz.prog f args w fun e w' => P e ∧ VT w0 K L0 v X' Y w' := by
  obtain ⟨S, R, L, T, h1, h2, h3, h4, h5⟩ := h
  refine (hc S R L T h1).mono fun e w' hd => ⟨hd.1, ?_⟩
  obtain ⟨S', R', L', T', k1, k2, k3, k4, k5, k6⟩ := hd.2
  refine ⟨S', R', L', T', k1, h2.mono (fun b x hb hx => k3 b x hx (h3 b hb)) k2, fun b hb => VolTo.off (h3 b hb) (h2.lt h1.ownL b hb) k4 k5 k6, fun x hx => k2 x (h4 x hx), fun b x hb => ?_⟩
  obtain ⟨q1, q2, q3⟩ := h5 b x hb
  exact ⟨k3 b x q1 q2, VolTo.off q2 (h1.own.atLt q1).2 k4 k5 k6, q3⟩
theorem VT.below (h : VT w0 K L0 v X Y w) : Below w0.heap.size w0 w := by
  obtain ⟨S, R, L, T, h1, _⟩ := h
  exact h1.below
theorem VT.cellK (h : VT w0 K L0 v X Y w) {b : Nat} {x : Obj} (hb : (b, x) ∈ K) : w.heap[b]? = some x := by
  obtain ⟨S, R, L, T, h1, _, _, _, h5⟩ := h
  exact h1.own.at (h5 b x hb).1
theorem VT.row (h : VT w0 K L0 v X Y w) {r : Rw} (hr : r ∈ L0) : ∃ S, Own ⟨w0, S⟩ w [r] := by
  obtain ⟨S, R, L, T, h1, _, _, h4, _⟩ := h
  exact ⟨S, h1.ownL.only (h4 r hr)⟩
theorem VT.tab (h : VT w0 K L0 v X Y w) : w.cell? ⟨Y.tb, 0, none⟩ = some (filesV v) ∧ w.cell? ⟨Y.tb, 1, none⟩ = some (.int .i64 Y.last) ∧ w.cell? ⟨Y.tb, 2, none⟩ = some (.map (some Y.mb)) := by
  obtain ⟨S, R, L, T, h1, h2, _⟩ := h
  exact ⟨h1.own.cellB h2.cells 0, h1.own.cellB h2.cells 1, h1.own.cellB h2.cells 2⟩
set_option maxHeartbeats 8000000 in
/-- Files are let go, one by one. -/
theorem lets_any {N : Nat} (h : VT w0 K L0 v X Y w) (ho : HeldOk N X) (hN : N ≤ 1000000) (a : Option Addr) (ids : List Int) (c : Nat) (hn : ids.length ≤ 1000000) (hid : ∀ w' X', VT w0 K L0 v X' Y w' → ∀ i (h : i < ids.length), ∃ g o, a = some ⟨g, o, none⟩ ∧ w'.cell? ⟨g, o + i, none⟩ = some (.int .i64 ids[i])) :
    Calls Tryz.prog 21 #[.pointer (some ⟨Y.tb, 0, none⟩), .slice a ids.length c] w fun e w' => e = .returned (.tuple #[]) ∧ VT w0 K L0 v (letAll X ids) Y w' := by
  have hall : ∀ k, HeldOk N (letAll X (ids.take k)) := fun k => by
    induction k with
    | zero => exact ho
    | succ k ih =>
      by_cases hk : k < ids.length
      · rw [List.take_succ_eq_append_getElem hk, letAll_snoc]; exact letX_ok ih _
      · rw [List.take_of_length_le (by omega)] at ih ⊢; exact ih
  have hmt : ∀ w : World, (method (Tryz.prog.types.size + Made.depth) 24 (.pointer (some ⟨v, 0, none⟩)) "Let").run Tryz.prog w = .ok (234, .pointer (some ⟨v, 0, none⟩)) w := fun _ => by kernel_rfl
  have Hall := Lib.hid hall
  have Hid := Lib.hid hid
  have H0 := Lib.hid (show VT w0 K L0 v (letAll X (ids.take 0)) Y w by rw [List.take_zero]; exact h)
  clear hall hid h ho
  go_enter Tryz.func21, Tryz.ntmps21
  go_wp2_with fail
  go_loopw [8] (fun iv wr => ∃ k : Nat, k ≤ ids.length ∧ iv = .int .i64 k ∧ VT w0 K L0 v (letAll X (ids.take k)) Y wr) (fun iv _ => ids.length - (intOf iv).toNat)
  case atStart => exact ⟨0, Nat.zero_le _, rfl, H0.out⟩
  case round =>
    obtain ⟨k, hk, rfl, hV⟩ := hrel
    by_cases hkl : k < ids.length
    · obtain ⟨g, o, rfl, hc⟩ := Hid.out wr _ hV k hkl
      obtain ⟨t0, _, _⟩ := hV.tab
      unfold filesV at t0
      have hsn : letAll X (ids.take (k + 1)) = letX (letAll X (ids.take k)) ids[k] := by rw [List.take_succ_eq_append_getElem hkl, letAll_snoc]
      have hlet := hV.vol (X' := letX (letAll X (ids.take k)) ids[k]) (P := fun e => ∃ kc, e = .returned (.int .i64 kc)) (f := 234) (args := #[.pointer (some ⟨v, 0, none⟩), .int .i64 ids[k]]) (fun S R L T h1 => let_any h1 ids[k] (Hall.out k) hN)
      rw [← hsn] at hlet
      have hb63 : (k : Int) < (ids.length : Int) := by exact_mod_cast hkl
      clear hV hsn
      generalize ids[k] = z at *
      go_wp2_with fail
      refine hlet.mono ?_
      rintro e w5 ⟨⟨kc, rfl⟩, h5⟩
      have H5 := Lib.hid h5
      clear h5 hlet
      go_wp2_with fail
      go_roundw
      case rel => exact ⟨k + 1, by omega, by go_num, H5.out⟩
      case measure => (simp [intOf]) <;> omega
    · have hke : k = ids.length := by omega
      subst hke
      rw [List.take_length] at hV
      have HP := Lib.hid hV
      have hb63 : ¬ ((ids.length : Int) < (ids.length : Int)) := Int.lt_irrefl _
      clear hV
      go_wp2_with fail
      go_end0
      exact ⟨rfl, HP.out⟩
end
end Go.Proofs.YtlkgmhlaoahdlaaGreatDoor
end

/- Files at paths are held, all of them or none. -/
section
namespace Go.Proofs.YtlkgmhlaoahdlaaGreatDoor
open Go.RowKit
open Go.ChangeMaps (setBlock)
set_option linter.unusedVariables false
set_option linter.unusedSimpArgs false
set_option maxRecDepth 100000

/-- Files at paths, one by one: the error, the numbers, the volume. -/
def holdFrom (s : VX × List Int) : List (List UInt8) → Int × List Int × VX
  | [] => (0, s.2, s.1)
  | l :: r => if codeX s.1 l = 0 then holdFrom (holdX s.1 l, s.2 ++ [numX s.1 l]) r else (codeX s.1 l, [], letAll s.1 s.2)
section
variable {w0 w w' : World} {S S' S1 : Blocks} {R L L' L1 M L0 : List Rw} {v c n d : Nat} {X X' X1 X2 : VX} {T T' Tc T1 : Tr} {Y : Tab} {K : Blocks} {fv : Value} {acc : List Int}
theorem rowI_own {fv : Value} {acc : List Int} (hO : Own ⟨w0, S⟩ w (rowI fv acc :: L)) (h : fv.ownBlock = none) : fv = .slice none 0 0 ∧ acc = [] := by
  rcases hO.head.2 with ⟨h1, h2⟩ | ⟨g, cp, cur, h1, _⟩
  · exact ⟨h1, List.eq_nil_of_length_eq_zero h2⟩
  · have h1' : fv = .slice (some ⟨g, 0, none⟩) acc.length cp := h1
    rw [h1'] at h; cases h
/-- A row that is taken out of the others. -/
theorem VolIn.rowOut (h : VolIn w0 S R L' v X T w) (hr : rowI fv acc ∈ L') (hap : fv = .slice none 0 0 ∨ ∀ x ∈ L, x ≠ rowI fv acc) (hL : ∀ x ∈ L, x ∈ L') : ∃ L2, VolIn w0 S R (rowI fv acc :: L2) v X T w ∧ (∀ x ∈ L, x ∈ L2) := by
  have hmono : ∀ L2 : List Rw, (∀ x ∈ L', x ∈ rowI fv acc :: L2) → Own ⟨w0, S⟩ w (R ++ (rowI fv acc :: L2)) → VolIn w0 S R (rowI fv acc :: L2) v X T w := fun L2 hs hO =>
    { h with own := hO, tree := h.tree.mono (fun b x _ hx => hx) (fun _ _ hh => hh.mono hs) }
  rcases hap with hn | hne
  · have hacc : acc = [] := by
      have hone := h.ownL.only hr
      exact (rowI_own hone (by rw [hn]; rfl)).2
    subst hn hacc
    exact ⟨L', hmono L' (fun x hx => List.mem_cons_of_mem _ hx) ((Own.nil h.own 3 1).perm List.perm_middle.symm), hL⟩
  · obtain ⟨A, B, rfl⟩ := List.append_of_mem hr
    refine ⟨A ++ B, hmono (A ++ B) (fun x hx => ?_) (h.own.perm (List.Perm.append_left R List.perm_middle)), fun x hx => ?_⟩
    · rcases List.mem_append.1 hx with hx | hx
      · exact List.mem_cons_of_mem _ (List.mem_append_left _ hx)
      · rcases List.mem_cons.1 hx with rfl | hx
        · exact List.mem_cons_self ..
        · exact List.mem_cons_of_mem _ (List.mem_append_right _ hx)
    · rcases List.mem_append.1 (hL x hx) with h1 | h1
      · exact List.mem_append_left _ h1
      · rcases List.mem_cons.1 h1 with e | h1
        · exact absurd e (hne x hx)
        · exact List.mem_append_right _ h1
/-- The row grows. -/
theorem VolIn.rowNew {fv' : Value} {acc' : List Int} (h : VolIn w0 S R (rowI fv acc :: L) v X T w) (hO : Own ⟨w0, S⟩ w' (rowI fv' acc' :: (R ++ L))) : VolIn w0 S R (rowI fv' acc' :: L) v X T w' :=
  { h with own := hO.perm List.perm_middle.symm, tree := h.tree.mono (fun b x _ hx => hx) (fun _ _ hh => hh.keep fun x hx he => by
      rcases List.mem_cons.1 hx with rfl | hx
      · exact absurd he (by show ¬ (3 : Nat) = 5; decide)
      · exact List.mem_cons_of_mem _ hx) }
/-- A volume, a table over it, and a row that is being made. -/
def VTR (w0 : World) (K : Blocks) (L0 : List Rw) (v : Nat) (X : VX) (Y : Tab) (fv : Value) (acc : List Int) (w : World) : Prop :=
  ∃ S R L T, VolIn w0 S R (rowI fv acc :: L) v X T w ∧ TabIn S L v Y ∧ (∀ b ∈ Y.foot, b ∉ v :: X.hm :: X.t :: T.foot) ∧ (∀ x ∈ L0, x ∈ L) ∧ (∀ b x, (b, x) ∈ K → (b, x) ∈ S ∧ b ∉ v :: X.hm :: X.t :: T.foot ∧ b ∉ Y.foot)
theorem VTR.vt (h : VTR w0 K L0 v X Y fv acc w) : VT w0 K (rowI fv acc :: L0) v X Y w := by
  obtain ⟨S, R, L, T, h1, h2, h3, h4, h5⟩ := h
  refine ⟨S, R, _, T, h1, h2.mono (fun b x _ hx => hx) (fun x hx => List.mem_cons_of_mem _ hx), h3, fun x hx => ?_, h5⟩
  rcases List.mem_cons.1 hx with rfl | hx
  · exact List.mem_cons_self ..
  · exact List.mem_cons_of_mem _ (h4 x hx)
theorem VT.vtr (h : VT w0 K L0 v X Y w) : VTR w0 K L0 v X Y (.slice none 0 0) [] w := by
  obtain ⟨S, R, L, T, h1, h2, h3, h4, h5⟩ := h
  exact ⟨S, R, L, T, { h1 with own := (Own.nil h1.own 3 1).perm List.perm_middle.symm, tree := h1.tree.mono (fun b x _ hx => hx) (fun _ _ hh => hh.mono fun x hx => List.mem_cons_of_mem _ hx) }, h2, h3, h4, h5⟩
theorem VTR.vol (h : VTR w0 K L0 v X Y fv acc w) {f : FuncId} {args : Array Value} {P : Ending → Prop} (hc : ∀ S R L T, VolIn w0 S R L v X T w → Calls Tryz.prog f args w fun e w' => P e ∧ VolTo w0 S L v X T w.heap.size X' w') : Calls Tryz.prog f args w fun e w' => P e ∧ VTR w0 K L0 v X' Y fv acc w' := by
  obtain ⟨S, R, L, T, h1, h2, h3, h4, h5⟩ := h
  refine (hc S R _ T h1).mono fun e w' hd => ⟨hd.1, ?_⟩
  obtain ⟨S', R', L', T', k1, k2, k3, k4, k5, k6⟩ := hd.2
  have hap : fv = .slice none 0 0 ∨ ∀ x ∈ L, x ≠ rowI fv acc := by
    cases hb : fv.ownBlock with
    | none => exact .inl (rowI_own (h1.ownL.only (List.mem_cons_self ..)) hb).1
    | some g =>
      refine .inr fun x hx e => ?_
      have hp := (List.pairwise_cons.1 h1.ownL.apart).1 x hx
      rw [e] at hp
      rcases hp with hp | hp
      · have hp' : fv.ownBlock = none := hp
        rw [hb] at hp'; cases hp'
      · exact hp rfl
  obtain ⟨L2, q1, q2⟩ := k1.rowOut (k2 _ (List.mem_cons_self ..)) hap (fun x hx => k2 x (List.mem_cons_of_mem _ hx))
  refine ⟨S', R', L2, T', q1, h2.mono (fun b x hb hx => k3 b x hx (h3 b hb)) q2, fun b hb => VolTo.off (h3 b hb) (h2.lt h1.ownL b hb) k4 k5 k6, fun x hx => q2 x (h4 x hx), fun b x hb => ?_⟩
  obtain ⟨p1, p2, p3⟩ := h5 b x hb
  exact ⟨k3 b x p1 p2, VolTo.off p2 (h1.own.atLt p1).2 k4 k5 k6, p3⟩
end
end Go.Proofs.YtlkgmhlaoahdlaaGreatDoor
end

/- Files at paths are held: the walk. -/
section
namespace Go.Proofs.YtlkgmhlaoahdlaaGreatDoor
open Go.RowKit
open Go.ChangeMaps (setBlock)
set_option linter.unusedVariables false
set_option linter.unusedSimpArgs false
set_option maxRecDepth 100000

section
variable {w0 w w' : World} {S S' S1 : Blocks} {R L L' L1 M L0 : List Rw} {v c n d : Nat} {X X' X1 X2 : VX} {T T' Tc T1 : Tr} {Y : Tab} {K : Blocks} {fv : Value} {acc : List Int}
/-- The row is longer by one. -/
theorem VTR.grow (h : VTR w0 K L0 v X Y fv acc w) : ∃ S R L, Own ⟨w0, S⟩ w (⟨3, 1, fv, acc.length, acc.map (Value.int .i64)⟩ :: (R ++ L)) ∧ ∀ w' fv' acc', Own ⟨w0, S⟩ w' (⟨3, 1, fv', acc'.length, acc'.map (Value.int .i64)⟩ :: (R ++ L)) → VTR w0 K L0 v X Y fv' acc' w' := by
  obtain ⟨S, R, L, T, h1, h2, h3, h4, h5⟩ := h
  exact ⟨S, R, L, h1.own.perm List.perm_middle, fun w' fv' acc' hO => ⟨S, R, L, T, h1.rowNew hO, h2, h3, h4, h5⟩⟩
theorem VTR.weak (h : VTR w0 K L0 v X Y fv acc w) : VT w0 K L0 v X Y w := by
  obtain ⟨S, R, L, T, h1, h2, h3, h4, h5⟩ := h.vt
  exact ⟨S, R, L, T, h1, h2, h3, fun x hx => h4 x (List.mem_cons_of_mem _ hx), h5⟩
def HoldAt (w0 : World) (K : Blocks) (L0 : List Rw) (v : Nat) (X : VX) (Y : Tab) (ps : List ByteArray) (e : Ending) (w' : World) : Prop :=
  ∃ fv, e = .returned (.tuple #[fv, .int .i64 (holdFrom (X, []) (ps.map fun p => p.data.toList)).1]) ∧ VTR w0 K L0 v (holdFrom (X, []) (ps.map fun p => p.data.toList)).2.2 Y fv (holdFrom (X, []) (ps.map fun p => p.data.toList)).2.1 w'
set_option maxHeartbeats 16000000 in
theorem holds_any {N : Nat} (h : VT w0 K L0 v X Y w) (hm : Mx w0) (ho : HeldOk N X) (a : Option Addr) (ps : List ByteArray) (c : Nat) (hN : N + ps.length ≤ 1000000) (hsz : ∀ p ∈ ps, p.size ≤ maxLen) (hps : ∀ w' X', VT w0 K L0 v X' Y w' → ∀ i (h : i < ps.length), ∃ g o, a = some ⟨g, o, none⟩ ∧ w'.cell? ⟨g, o + i, none⟩ = some (.string ps[i])) :
    Calls Tryz.prog 20 #[.pointer (some ⟨Y.tb, 0, none⟩), .slice a ps.length c] w (HoldAt w0 K L0 v X Y ps) := by
  have hmt : ∀ w : World, (method (Tryz.prog.types.size + Made.depth) 24 (.pointer (some ⟨v, 0, none⟩)) "Hold").run Tryz.prog w = .ok (233, .pointer (some ⟨v, 0, none⟩)) w := fun _ => by kernel_rfl
  obtain ⟨qs, hqs⟩ : ∃ qs, qs = ps.map fun p => p.data.toList := ⟨_, rfl⟩
  obtain ⟨res, hres⟩ : ∃ res, res = holdFrom (X, []) qs := ⟨_, rfl⟩
  have hql : qs.length = ps.length := by rw [hqs]; simp
  have H0 := Lib.hid (show ∃ acc X1, VTR w0 K L0 v X1 Y (.slice none 0 0) acc w ∧ holdFrom (X1, acc) (qs.drop 0) = res ∧ acc.length = 0 ∧ HeldOk (N + 0) X1 from ⟨[], X, h.vtr, by rw [hres]; rfl, rfl, ho⟩)
  have Hps := Lib.hid hps
  have Hsz := Lib.hid hsz
  have Hql := Lib.hid hql
  have Hqs := Lib.hid hqs
  have Hend := Lib.hid (show ∀ fv w', VTR w0 K L0 v res.2.2 Y fv res.2.1 w' → HoldAt w0 K L0 v X Y ps (.returned (.tuple #[fv, .int .i64 res.1])) w' from fun fv w' k => by rw [hres, hqs] at k ⊢; exact ⟨fv, rfl, k⟩)
  obtain ⟨i0, hi, hz0, hz1, hz2⟩ := info_parts info_i
  clear hps hsz hql h ho hqs hres
  go_enter Tryz.func20, Tryz.ntmps20
  go_wp2_with fail
  go_loopw [6, 13] (fun u iv wr => ∃ k : Nat, k ≤ ps.length ∧ iv = .int .i64 k ∧ ∃ acc X1, VTR w0 K L0 v X1 Y u acc wr ∧ holdFrom (X1, acc) (qs.drop k) = res ∧ acc.length = k ∧ HeldOk (N + k) X1) (fun _ iv _ => ps.length - (intOf iv).toNat)
  case atStart => exact ⟨0, Nat.zero_le _, rfl, H0.out⟩
  case round =>
    obtain ⟨k, hk, rfl, acc, X1, hV, hf, hal, hok⟩ := hrel
    by_cases hkl : k < ps.length
    · obtain ⟨g, o, rfl, hc⟩ := Hps.out wr _ hV.weak k hkl
      obtain ⟨t0, _, _⟩ := hV.weak.tab
      unfold filesV at t0
      have hss := Hsz.out ps[k] (List.getElem_mem _)
      have hdr : qs.drop k = ps[k].data.toList :: qs.drop (k + 1) := by
        rw [List.drop_eq_getElem_cons (by rw [Hql.out]; exact hkl)]
        congr 1
        simp [Hqs.out]
      rw [hdr] at hf
      have hhd := hV.vol (X' := holdX X1 ps[k].data.toList) (P := fun e => e = .returned (.tuple #[.int .i64 (numX X1 ps[k].data.toList), .int .i64 (codeX X1 ps[k].data.toList)])) (f := 233) (args := #[.pointer (some ⟨v, 0, none⟩), .string ps[k]]) (fun S R L T h1 => hold_any h1 hm ps[k] hss hok (by omega))
      have hok2 := holdX_ok hok ps[k].data.toList
      have hb63 : (k : Int) < (ps.length : Int) := by exact_mod_cast hkl
      clear hV hdr hss
      generalize ps[k] = s at *
      unfold holdFrom at hf
      simp only at hf
      obtain ⟨cd, hcd⟩ : ∃ cd, codeX X1 s.data.toList = cd := ⟨_, rfl⟩
      obtain ⟨id, hid⟩ : ∃ id, numX X1 s.data.toList = id := ⟨_, rfl⟩
      rw [hcd, hid] at hf hhd
      by_cases h0 : cd = 0
      · subst h0
        rw [if_pos rfl] at hf
        have Hf := Lib.hid hf
        have Hok := Lib.hid hok2
        clear hf hok2 hok hcd hid
        go_wp2_with fail
        refine hhd.mono ?_
        rintro e w5 ⟨rfl, h5⟩
        obtain ⟨S5, R5, L5, hO5, hback⟩ := h5.grow
        obtain ⟨fa, fc, hfv, _, _⟩ := Own.sized (h := hO5)
        subst hfv
        have HO6 := Lib.hid (show Own ⟨w0, S5⟩ (w5.alloc (.cells #[.int .i64 id] 3)) (⟨3, 1, .slice fa acc.length fc, acc.length, acc.map (Value.int .i64)⟩ :: (R5 ++ L5)) from hO5.alloc _)
        have hsrc : Src (w5.alloc (.cells #[.int .i64 id] 3)) (.slice (some ⟨w5.heap.size, 0, none⟩) 1 1) 1 [.int .i64 id] := by
          refine .inr ⟨_, _, rfl, fun j u hj => ?_, fun u hu => by rw [List.mem_singleton.1 hu]; rfl⟩
          rw [Addr.add_mid, Nat.zero_add, World.cell?_alloc_new]
          simpa using hj
        have Hsrc := Lib.hid hsrc
        have Hb1 := Lib.hid (show acc.length + 1 ≤ maxLen by unfold maxLen; omega)
        have Hb2 := Lib.hid (show (acc.length + 1) * 8 ≤ 140737488355328 by omega)
        have Hback := Lib.hid (fun v7 w7 (hO7 : Own ⟨w0, S5⟩ w7 (⟨3, 1, v7, acc.length + 1, acc.map (Value.int .i64) ++ [.int .i64 id]⟩ :: (R5 ++ L5))) => hback w7 v7 (acc ++ [id]) (by
          rw [List.length_append, List.map_append]; exact hO7))
        have Hal := Lib.hid hal
        clear hO5 hsrc hback h5 hhd hal
        go_wp2_with (at_builtin; refine wpList_append_src rfl (.tmp 32) (.tmp 34) 22 rfl (.slice fa acc.length fc) acc.length (acc.map (Value.int .i64)) (.slice (some ⟨w5.heap.size, 0, none⟩) 1 1) 1 [.int .i64 id] rfl rfl HO6.out i0 (.int .i64 0) 8 Tryz.underlying22 hi hz0 hz1 hz2 rfl (by decide) Hsrc.out (by simp) Hb1.out Hb2.out ?_)
        intro v7 w7 hO7
        have HV := Lib.hid (Hback.out v7 w7 hO7)
        obtain ⟨a7, c7, hv7, _, _⟩ := Own.sized (h := hO7)
        subst hv7
        clear hO7 HO6 Hsrc Hb1 Hb2 Hback
        go_wp2_with fail
        go_roundw
        case rel => exact ⟨k + 1, by omega, by go_num, acc ++ [id], _, HV.out, Hf.out, by rw [List.length_append, Hal.out]; rfl, Hok.out⟩
        case measure => (simp [intOf]) <;> omega
      · rw [if_neg h0] at hf
        have hX2 : holdX X1 s.data.toList = X1 := by unfold holdX; rw [hcd, if_neg h0]
        rw [hX2] at hhd
        have hne : (cd != 0) = true := by simp [h0]
        have Hf := Lib.hid hf
        have Hok := Lib.hid hok
        have Hal := Lib.hid hal
        have H0c := Lib.hid h0
        clear hf hok2 hok hcd hid hX2 hal h0
        go_wp2_with fail
        refine hhd.mono ?_
        rintro e w5 ⟨rfl, h5⟩
        obtain ⟨_, hrow⟩ := h5.vt.row (List.mem_cons_self ..)
        obtain ⟨fa, fc, hfv, _, _⟩ := Own.sized (h := (show Own _ w5 (⟨3, 1, _, acc.length, acc.map (Value.int .i64)⟩ :: []) from hrow))
        subst hfv
        have hlt := lets_any h5.vt Hok.out (by omega) fa acc fc (by rw [Hal.out]; omega) (fun w' X' k1 i hi => by
          obtain ⟨_, hr⟩ := k1.row (List.mem_cons_self ..)
          have hr' : Own _ w' (⟨3, 1, .slice fa acc.length fc, acc.length, acc.map (Value.int .i64)⟩ :: []) := hr
          obtain ⟨g5, cp5, e5, _⟩ := Own.form (h := hr') (by omega)
          injection e5 with e6 e7 e8
          subst e6
          refine ⟨g5, 0, rfl, ?_⟩
          rw [Nat.zero_add, Own.cell (h := hr') i (by omega), List.getElem?_map, List.getElem?_eq_getElem hi]; rfl)
        clear hrow h5 hhd
        go_wp2_with fail
        refine hlt.mono ?_
        rintro e w6 ⟨rfl, h6⟩
        have hV6 : VTR w0 K L0 v (letAll X1 acc) Y (.slice none 0 0) [] w6 := by
          obtain ⟨S, R, L, T, k1, k2, k3, k4, k5⟩ := h6
          exact VT.vtr ⟨S, R, L, T, k1, k2, k3, fun x hx => k4 x (List.mem_cons_of_mem _ hx), k5⟩
        have HP := Lib.hid (show HoldAt w0 K L0 v X Y ps (.returned (.tuple #[.slice none 0 0, .int .i64 cd])) w6 from by
          have := Hend.out (.slice none 0 0) w6 (by rw [← Hf.out]; exact hV6)
          rw [← Hf.out] at this
          exact this)
        clear hlt h6 hV6
        go_wp2_with fail
        go_ret2
        exact HP.out
    · have hke : k = ps.length := by omega
      subst hke
      rw [List.drop_of_length_le (by rw [Hql.out]; exact Nat.le_refl _)] at hf
      have hf2 : ((0 : Int), acc, X1) = res := hf
      have HP := Lib.hid (show HoldAt w0 K L0 v X Y ps (.returned (.tuple #[u6, .int .i64 0])) wr from by
        have := Hend.out u6 wr (by rw [← hf2]; exact hV)
        rw [← hf2] at this
        exact this)
      have hb63 : ¬ ((ps.length : Int) < (ps.length : Int)) := Int.lt_irrefl _
      clear hV hf hf2
      go_wp2_with fail
      go_ret2
      exact HP.out
end
end Go.Proofs.YtlkgmhlaoahdlaaGreatDoor
end

/- What runs, as plain data: it comes, is asked to end, and goes. -/
section
namespace Go.Proofs.YtlkgmhlaoahdlaaGreatDoor
open Go.RowKit
open Go.ChangeMaps (setBlock)
set_option linter.unusedVariables false
set_option linter.unusedSimpArgs false
set_option maxRecDepth 100000

section
variable {w0 w w' : World} {S S' S1 : Blocks} {R L L' L1 M L0 : List Rw} {v c n d : Nat} {X X' X1 X2 : VX} {T T' Tc T1 : Tr} {Y Y' : Tab} {K K' : Blocks} {fv : Value} {acc : List Int}
theorem VT.later (h : VT w0 K L0 v X Y w) (hb : Below w.heap.size w w') : VT w0 K L0 v X Y w' := by
  obtain ⟨S, R, L, T, h1, h2⟩ := h
  exact ⟨S, R, L, T, h1.later hb, h2⟩
theorem VT.drew (h : VT w0 K L0 v X Y w) : VT w0 K L0 v X Y w.drew := h.later (Below.refl _ w).drew
theorem VT.rows (h : VT w0 K L0 v X Y w) (hs : ∀ x ∈ L1, x ∈ L0) : VT w0 K L1 v X Y w := by
  obtain ⟨S, R, L, T, h1, h2, h3, h4, h5⟩ := h
  exact ⟨S, R, L, T, h1, h2, h3, fun x hx => h4 x (hs x hx), h5⟩
theorem VT.blocks (h : VT w0 K L0 v X Y w) (hs : ∀ b x, (b, x) ∈ K' → (b, x) ∈ K) : VT w0 K' L0 v X Y w := by
  obtain ⟨S, R, L, T, h1, h2, h3, h4, h5⟩ := h
  exact ⟨S, R, L, T, h1, h2, h3, h4, fun b x hb => h5 b x (hs b x hb)⟩
/-- All rows that there are. -/
theorem VT.all (h : VT w0 K L0 v X Y w) : ∃ L, (∀ x ∈ L0, x ∈ L) ∧ (∀ p ∈ Y.runs, PcI L p.2.mv p.2.maps) ∧ VT w0 K L v X Y w := by
  obtain ⟨S, R, L, T, h1, h2, h3, h4, h5⟩ := h
  exact ⟨L, h4, fun p hp => (h2.run p hp).2, S, R, L, T, h1, h2, h3, fun _ hx => hx, h5⟩
/-- The table's own blocks are turned. -/
theorem VT.turn (h1 : VolIn w0 S R L v X T w) (h3 : ∀ b ∈ Y.foot, b ∉ v :: X.hm :: X.t :: T.foot) (h4 : ∀ x ∈ L0, x ∈ L) (h5 : ∀ b x, (b, x) ∈ K → (b, x) ∈ S ∧ b ∉ v :: X.hm :: X.t :: T.foot ∧ b ∉ Y.foot)
    (hO : Own ⟨w0, S'⟩ w' (R ++ L)) (hk : ∀ b x, (b, x) ∈ S → b ∉ Y.foot → (b, x) ∈ S') (ht : TabIn S' L v Y') (hf : ∀ b ∈ Y'.foot, b ∈ Y.foot ∨ w.heap.size ≤ b) : VT w0 K L0 v X Y' w' := by
  refine ⟨S', R, L, T, h1.base hO fun b x hx hb => hk b x hx fun hy => h3 b hy hb, ht, fun b hb hx => ?_, h4, fun b x hb => ?_⟩
  · rcases hf b hb with hy | hy
    · exact h3 b hy hx
    · have := (h1.lt hx).2; omega
  · obtain ⟨q1, q2, q3⟩ := h5 b x hb
    refine ⟨hk b x q1 q3, q2, fun hy => ?_⟩
    rcases hf b hy with hy | hy
    · exact q3 hy
    · have := (h1.own.atLt q1).2; omega
theorem VT.free (h : VT w0 K L0 v X Y w) (j : Nat) : w.frozen? ⟨Y.tb, j, none⟩ = false := by
  obtain ⟨S, R, L, T, h1, h2, _⟩ := h
  exact free_at (h1.own.at h2.cells) j
theorem VT.setLast (h : VT w0 K L0 v X Y w) (n : Int) : VT w0 K L0 v X { Y with last := n } (w.setCell ⟨Y.tb, 1, none⟩ (.int .i64 n)) := by
  obtain ⟨S, R, L, T, h1, h2, h3, h4, h5⟩ := h
  have hO := h1.own.storeB h2.cells 1 (.int .i64 n)
  have hO' : Own ⟨w0, upd S Y.tb (.cells (tabCells v { Y with last := n }) 68)⟩ (w.setCell ⟨Y.tb, 1, none⟩ (.int .i64 n)) (R ++ L) := hO
  have hn := List.nodup_cons.1 h2.apart
  have hk : ∀ b x, (b, x) ∈ S → b ≠ Y.tb → (b, x) ∈ upd S Y.tb (.cells (tabCells v { Y with last := n }) 68) := fun b x hb hne => upd_other hb hne _
  obtain ⟨o, m1, m2⟩ := h2.map
  refine VT.turn h1 h3 h4 h5 hO' (fun b x hb hne => hk b x hb fun e => hne (e ▸ List.mem_cons_self ..)) ⟨upd_same h2.cells _, ⟨o, hk _ _ m1 fun e => hn.1 (e ▸ List.mem_cons_self ..), m2⟩, fun p hp => ?_, h2.apart⟩ fun b hb => .inl hb
  obtain ⟨r1, r2⟩ := h2.run p hp
  exact ⟨hk _ _ r1 fun e => hn.1 (e ▸ List.mem_cons_of_mem _ (List.mem_map.2 ⟨p, hp, rfl⟩)), r2⟩
theorem runsV_put (m : List (Int × Pr)) (i : Int) (p : Pr) : put (runsV m) i (.pointer (some ⟨p.b, 0, none⟩)) = runsV (put m i p) := by
  unfold runsV
  induction m with
  | nil => rfl
  | cons q r ih =>
    simp only [List.map_cons]
    unfold put
    by_cases hp : q.1 = i
    · rw [if_pos hp, if_pos hp]; rfl
    · rw [if_neg hp, if_neg hp, List.map_cons, ih]
/-- Something comes. -/
theorem VT.addRun (h : VT w0 K L0 v X Y w) {i : Int} (hn : look Y.runs i = none) (p : Pr) (hb : p.b = w.heap.size) (hm : PcI L0 p.mv p.maps) :
    ∃ o', (Instr.mapUpdate 66 (.map (some Y.mb)) (.int .i64 i) (.pointer (some ⟨w.heap.size, 0, none⟩))).run Tryz.prog (w.alloc (.cells (prCells i p) 54)) = .ok () (setBlock (w.alloc (.cells (prCells i p) 54)) Y.mb o') ∧
      VT w0 K L0 v X { Y with runs := put Y.runs i p } (setBlock (w.alloc (.cells (prCells i p) 54)) Y.mb o') := by
  obtain ⟨S, R, L, T, h1, h2, h3, h4, h5⟩ := h
  have hO := h1.own.newB (.cells (prCells i p) 54)
  obtain ⟨o, m1, m2⟩ := h2.map
  have m1' := List.mem_cons_of_mem (w.heap.size, Obj.cells (prCells i p) 54) m1
  obtain ⟨o', hup, m3⟩ := m2.update kindsI Tryz.underlying66 (hO.at m1') i (.pointer (some ⟨w.heap.size, 0, none⟩))
  rw [← hb, runsV_put] at m3
  have hO2 := hO.setB m1' o'
  have hlow := h2.lt h1.ownL
  have hmlt := (h1.own.atLt m1).2
  have hap := h2.apart
  have hn1 := List.nodup_cons.1 hap
  have hn2 := List.nodup_cons.1 hn1.2
  have hk : ∀ b x, (b, x) ∈ S → b ≠ Y.mb → (b, x) ∈ upd ((w.heap.size, Obj.cells (prCells i p) 54) :: S) Y.mb o' := fun b x hb hne => upd_other (List.mem_cons_of_mem _ hb) hne _
  have hpn := put_new (look_none_key hn) p
  have hft : ({ Y with runs := put Y.runs i p } : Tab).foot = Y.foot ++ [p.b] := by
    unfold Tab.foot
    rw [hpn, List.map_append]; rfl
  refine ⟨o', hup, VT.turn h1 h3 h4 h5 hO2 (fun b x hb hne => hk b x hb fun e => hne (e ▸ List.mem_cons_of_mem _ (List.mem_cons_self ..))) ⟨hk _ _ h2.cells fun e => hn1.1 (e ▸ List.mem_cons_self ..), ⟨o', upd_same m1' _, m3⟩, fun q hq => ?_, ?_⟩ fun b hb => ?_⟩
  · have hq' : q ∈ put Y.runs i p := hq
    rw [hpn] at hq'
    rcases List.mem_append.1 hq' with hq' | hq'
    · obtain ⟨r1, r2⟩ := h2.run q hq'
      exact ⟨hk _ _ r1 fun e => hn2.1 (e ▸ List.mem_map.2 ⟨q, hq', rfl⟩), r2⟩
    · rw [List.mem_singleton] at hq'
      subst hq'
      refine ⟨?_, hm.imp id (h4 _)⟩
      rw [hb]
      exact upd_other (List.mem_cons_self ..) (by omega) _
  · rw [hft]
    exact List.nodup_append.2 ⟨hap, by simp, fun x hx y hy e => by
      rw [List.mem_singleton] at hy
      have := hlow x hx
      omega⟩
  · rw [hft] at hb
    rcases List.mem_append.1 hb with hb | hb
    · exact .inl hb
    · rw [List.mem_singleton] at hb
      right; omega
/-- What runs is found, or isn't. -/
theorem VT.found (h : VT w0 K L0 v X Y w) (i : Int) : (Instr.lookup 66 (.map (some Y.mb)) (.int .i64 i) true).run Tryz.prog w = .ok (.tuple #[((look Y.runs i).map fun p => Value.pointer (some ⟨p.b, 0, none⟩)).getD (.pointer none), .bool (look Y.runs i).isSome]) w := by
  obtain ⟨S, R, L, T, h1, h2, h3, h4, h5⟩ := h
  obtain ⟨o, m1, m2⟩ := h2.map
  have hl := MapO.lookup kindsI Tryz.underlying66 (z := .pointer none) (by kernel_rfl) m2 (h1.own.at m1) i true
  rw [show look (runsV Y.runs) i = (look Y.runs i).map (fun p => Value.pointer (some ⟨p.b, 0, none⟩)) from look_map (fun p : Pr => Value.pointer (some ⟨p.b, 0, none⟩)) Y.runs i] at hl
  rw [hl, if_pos rfl]
  cases look Y.runs i <;> rfl
theorem VT.len (h : VT w0 K L0 v X Y w) (ty : TypeId) : (Builtin.len_ #[66] ty #[.map (some Y.mb)]).run Tryz.prog w = .ok (goInt Y.runs.length) w := by
  obtain ⟨S, R, L, T, h1, h2, h3, h4, h5⟩ := h
  obtain ⟨o, m1, m2⟩ := h2.map
  have := MapO.length Tryz.underlying66 m2 (h1.own.at m1) ty
  rwa [show (runsV Y.runs).length = Y.runs.length by simp [runsV]] at this
theorem VT.proc (h : VT w0 K L0 v X Y w) {i : Int} {p : Pr} (hp : look Y.runs i = some p) (j : Nat) : w.cell? ⟨p.b, j, none⟩ = (prCells i p)[j]? ∧ w.frozen? ⟨p.b, j, none⟩ = false := by
  obtain ⟨S, R, L, T, h1, h2, h3, h4, h5⟩ := h
  have hr := (h2.run _ (look_mem hp)).1
  exact ⟨h1.own.cellB hr j, free_at (h1.own.at hr) j⟩
/-- It is asked to end. -/
theorem VT.ask (h : VT w0 K L0 v X Y w) (hd : (Y.runs.map (·.1)).Nodup) {i : Int} {p : Pr} (hp : look Y.runs i = some p) : VT w0 K L0 v X { Y with runs := put Y.runs i { p with ends := true } } (w.setCell ⟨p.b, 3, none⟩ (.bool true)) := by
  obtain ⟨S, R, L, T, h1, h2, h3, h4, h5⟩ := h
  obtain ⟨r1, r2⟩ := h2.run _ (look_mem hp)
  have hO := h1.own.storeB r1 3 (.bool true)
  have hO' : Own ⟨w0, upd S p.b (.cells (prCells i { p with ends := true }) 54)⟩ (w.setCell ⟨p.b, 3, none⟩ (.bool true)) (R ++ L) := hO
  have hn1 := List.nodup_cons.1 h2.apart
  have hn2 := List.nodup_cons.1 hn1.2
  have hpm : p.b ∈ Y.runs.map fun q => q.2.b := List.mem_map.2 ⟨_, look_mem hp, rfl⟩
  have hk : ∀ b x, (b, x) ∈ S → b ≠ p.b → (b, x) ∈ upd S p.b (.cells (prCells i { p with ends := true }) 54) := fun b x hb hne => upd_other hb hne _
  have e1 := put_map (fun q : Pr => Value.pointer (some ⟨q.b, 0, none⟩)) (v := { p with ends := true }) hp rfl
  have e2 := put_map (fun q : Pr => q.b) (v := { p with ends := true }) hp rfl
  have e3 : (put Y.runs i { p with ends := true }).map (fun q => q.2.b) = Y.runs.map fun q => q.2.b := by
    have := congrArg (List.map Prod.snd) e2
    rw [List.map_map, List.map_map] at this
    exact this
  have hft : ({ Y with runs := put Y.runs i { p with ends := true } } : Tab).foot = Y.foot := by unfold Tab.foot; rw [e3]
  obtain ⟨o, m1, m2⟩ := h2.map
  have hbs : ∀ q ∈ Y.runs, q.1 ≠ i → q.2.b ≠ p.b := fun q hq hne e => by
    have hperm := del_eq_perm hd hp
    have hnd2 : (p.b :: (del Y.runs i).map fun q => q.2.b).Nodup := (hperm.map fun q : Int × Pr => q.2.b).nodup_iff.1 hn2.2
    rcases List.mem_cons.1 (hperm.mem_iff.1 hq) with h6 | h6
    · exact hne (by rw [h6])
    · exact (List.nodup_cons.1 hnd2).1 (List.mem_map.2 ⟨q, h6, e⟩)
  refine VT.turn h1 h3 h4 h5 hO' (fun b x hb hne => hk b x hb fun e => hne (e ▸ List.mem_cons_of_mem _ (List.mem_cons_of_mem _ hpm))) ⟨hk _ _ h2.cells fun e => hn1.1 (e ▸ List.mem_cons_of_mem _ hpm), ⟨o, hk _ _ m1 fun e => hn2.1 (e ▸ hpm), ?_⟩, fun q hq => ?_, by rw [hft]; exact h2.apart⟩ fun b hb => .inl (by rwa [hft] at hb)
  · have : runsV (put Y.runs i { p with ends := true }) = runsV Y.runs := e1
    rw [this]; exact m2
  · rcases mem_put hd hp hq with rfl | ⟨hq, hne⟩
    · exact ⟨upd_same r1 _, r2⟩
    · obtain ⟨s1, s2⟩ := h2.run q hq
      exact ⟨hk _ _ s1 (hbs q hq hne), s2⟩
/-- It goes. -/
theorem VT.delRun (h : VT w0 K L0 v X Y w) (hd : (Y.runs.map (·.1)).Nodup) {i : Int} {p : Pr} (hp : look Y.runs i = some p) :
    ∃ o' L1, (Builtin.delete_ #[66, 3] 0 #[.map (some Y.mb), .int .i64 i]).run Tryz.prog w = .ok (.tuple #[]) (setBlock w Y.mb o') ∧ (∀ x ∈ L0, x ∈ L1) ∧ PcI L1 p.mv p.maps ∧
      VT w0 ((p.b, .cells (prCells i p) 54) :: K) L1 v X { Y with runs := del Y.runs i } (setBlock w Y.mb o') := by
  obtain ⟨S, R, L, T, h1, h2, h3, h4, h5⟩ := h
  obtain ⟨r1, r2⟩ := h2.run _ (look_mem hp)
  obtain ⟨o, m1, m2⟩ := h2.map
  obtain ⟨o', hdel, m3⟩ := m2.delete (w := w) kindsI Tryz.underlying66 (h1.own.at m1) i 0
  have e : del (runsV Y.runs) i = runsV (del Y.runs i) := (del_map (fun q : Pr => Value.pointer (some ⟨q.b, 0, none⟩)) Y.runs i).symm
  rw [e] at m3
  have hO := h1.own.setB m1 o'
  have hn1 := List.nodup_cons.1 h2.apart
  have hn2 := List.nodup_cons.1 hn1.2
  have hpm : p.b ∈ Y.runs.map fun q => q.2.b := List.mem_map.2 ⟨_, look_mem hp, rfl⟩
  have hk : ∀ b x, (b, x) ∈ S → b ≠ Y.mb → (b, x) ∈ upd S Y.mb o' := fun b x hb hne => upd_other hb hne _
  have hsub := del_sub Y.runs i
  have hperm := del_eq_perm hd hp
  have hnd2 : (p.b :: (del Y.runs i).map fun q => q.2.b).Nodup := by
    have := (hperm.map fun q : Int × Pr => q.2.b).nodup_iff.1 hn2.2
    exact this
  have hpf : p.b ∉ ({ Y with runs := del Y.runs i } : Tab).foot := fun hx => by
    rcases List.mem_cons.1 hx with hx | hx
    · exact hn1.1 (hx ▸ List.mem_cons_of_mem _ hpm)
    · rcases List.mem_cons.1 hx with hx | hx
      · exact hn2.1 (hx ▸ hpm)
      · exact (List.nodup_cons.1 hnd2).1 hx
  have hfs : ({ Y with runs := del Y.runs i } : Tab).foot.Sublist Y.foot := ((hsub.map _).cons_cons _).cons_cons _
  refine ⟨o', L, hdel, h4, r2, ?_⟩
  refine ⟨upd S Y.mb o', R, L, T, h1.base hO fun b x hx hb => hk b x hx fun e => h3 b (e ▸ List.mem_cons_of_mem _ (List.mem_cons_self ..)) hb, ⟨hk _ _ h2.cells fun e => hn1.1 (e ▸ List.mem_cons_self ..), ⟨o', upd_same m1 _, m3⟩, fun q hq => by
    obtain ⟨s1, s2⟩ := h2.run q (hsub.subset hq)
    exact ⟨hk _ _ s1 fun e => hn2.1 (e ▸ List.mem_map.2 ⟨q, hsub.subset hq, rfl⟩), s2⟩, h2.apart.sublist hfs⟩, fun b hb => h3 b (hfs.subset hb), fun _ hx => hx, fun b x hb => ?_⟩
  rcases List.mem_cons.1 hb with e | hb
  · obtain ⟨rfl, rfl⟩ := Prod.mk.inj e
    exact ⟨hk _ _ r1 fun e => hn2.1 (e ▸ hpm), h3 _ (List.mem_cons_of_mem _ (List.mem_cons_of_mem _ hpm)), hpf⟩
  · obtain ⟨q1, q2, q3⟩ := h5 b x hb
    exact ⟨hk b x q1 fun e => q3 (e ▸ List.mem_cons_of_mem _ (List.mem_cons_self ..)), q2, fun hx => q3 (hfs.subset hx)⟩
end
end Go.Proofs.YtlkgmhlaoahdlaaGreatDoor
end

/- What runs: it comes, is asked to end, and ends. The walks. -/
section
namespace Go.Proofs.YtlkgmhlaoahdlaaGreatDoor
open Go.RowKit
open Go.ChangeMaps (setBlock)
set_option linter.unusedVariables false
set_option linter.unusedSimpArgs false
set_option maxRecDepth 100000

section
variable {w0 w w' : World} {S S' S1 : Blocks} {R L L' L1 M L0 : List Rw} {v c n d : Nat} {X X' X1 X2 : VX} {T T' Tc T1 : Tr} {Y Y' : Tab} {K K' : Blocks} {fv : Value} {acc : List Int}
theorem VT.foundYes (h : VT w0 K L0 v X Y w) {i : Int} {p : Pr} (hp : look Y.runs i = some p) : (Instr.lookup 66 (.map (some Y.mb)) (.int .i64 i) true).run Tryz.prog w = .ok (.tuple #[.pointer (some ⟨p.b, 0, none⟩), .bool true]) w := by
  have := h.found i
  rw [hp] at this
  exact this
theorem VT.foundNo (h : VT w0 K L0 v X Y w) {i : Int} (hp : look Y.runs i = none) : (Instr.lookup 66 (.map (some Y.mb)) (.int .i64 i) true).run Tryz.prog w = .ok (.tuple #[.pointer none, .bool false]) w := by
  have := h.found i
  rw [hp] at this
  exact this
theorem kill_no (h : VT w0 K L0 v X Y w) (i : Int) (hp : look Y.runs i = none) : Calls Tryz.prog 9 #[.pointer (some ⟨Y.tb, 0, none⟩), .int .i64 i] w fun e w' => e = .returned (.int .i64 8) ∧ VT w0 K L0 v X Y w' := by
  obtain ⟨t0, t1, t2⟩ := h.tab
  have hl := h.foundNo hp
  have H := Lib.hid h
  clear h hp
  go_enter Tryz.func9, Tryz.ntmps9
  go_wp2_with fail
  go_ret
  exact ⟨rfl, H.out⟩
theorem kill_yes (h : VT w0 K L0 v X Y w) (hd : (Y.runs.map (·.1)).Nodup) (i : Int) {p : Pr} (hp : look Y.runs i = some p) : Calls Tryz.prog 9 #[.pointer (some ⟨Y.tb, 0, none⟩), .int .i64 i] w fun e w' => e = .returned (.int .i64 0) ∧ VT w0 K L0 v X { Y with runs := put Y.runs i { p with ends := true } } w' := by
  obtain ⟨t0, t1, t2⟩ := h.tab
  have hl := h.foundYes hp
  obtain ⟨c3, f3⟩ := h.proc hp 3
  have c3' : w.cell? ⟨p.b, 3, none⟩ = some (.bool p.ends) := c3
  have H := Lib.hid (h.ask hd hp)
  clear h hp c3
  go_enter Tryz.func9, Tryz.ntmps9
  go_wp2_with fail
  go_ret
  exact ⟨rfl, H.out⟩
theorem exit_no (h : VT w0 K L0 v X Y w) (i : Int) (hp : look Y.runs i = none) : Calls Tryz.prog 11 #[.pointer (some ⟨Y.tb, 0, none⟩), .int .i64 i] w fun e w' => e = .returned (.int .i64 8) ∧ VT w0 K L0 v X Y w' := by
  obtain ⟨t0, t1, t2⟩ := h.tab
  have hl := h.foundNo hp
  have H := Lib.hid h
  clear h hp
  go_enter Tryz.func11, Tryz.ntmps11
  go_wp2_with fail
  go_ret
  exact ⟨rfl, H.out⟩
/-- Numbers in a row, as a slice's value. -/
theorem PcI.shape (hO : Own ⟨w0, S⟩ w L) (h : PcI L fv acc) : ∃ a c, fv = .slice a acc.length c := by
  rcases h with ⟨rfl, rfl⟩ | h
  · exact ⟨none, 0, rfl⟩
  · obtain ⟨a, c, h1, _⟩ := Own.sized (h := (show Own _ w (⟨3, 1, fv, acc.length, acc.map (Value.int .i64)⟩ :: []) from hO.only h))
    exact ⟨a, c, h1⟩
theorem PcI.at {a : Option Addr} {cp : Nat} (h : PcI L0 (.slice a acc.length cp) acc) (hV : VT w0 K L0 v X Y w) (i : Nat) (hi : i < acc.length) : ∃ g o, a = some ⟨g, o, none⟩ ∧ w.cell? ⟨g, o + i, none⟩ = some (.int .i64 acc[i]) := by
  rcases h with ⟨_, h2⟩ | h
  · rw [h2] at hi; exact absurd hi (Nat.not_lt_zero _)
  · obtain ⟨_, hr⟩ := hV.row h
    have hr' : Own _ w (⟨3, 1, .slice a acc.length cp, acc.length, acc.map (Value.int .i64)⟩ :: []) := hr
    obtain ⟨g5, cp5, e5, _⟩ := Own.form (h := hr') (by omega)
    injection e5 with e6 e7 e8
    subst e6
    refine ⟨g5, 0, rfl, ?_⟩
    rw [Nat.zero_add, Own.cell (h := hr') i (by omega), List.getElem?_map, List.getElem?_eq_getElem hi]; rfl
set_option maxHeartbeats 2000000 in
theorem exit_yes {N : Nat} (h : VT w0 K L0 v X Y w) (hd : (Y.runs.map (·.1)).Nodup) (ho : HeldOk N X) (hN : N ≤ 1000000) (i : Int) {p : Pr} (hp : look Y.runs i = some p) (hpl : p.maps.length ≤ 1000000) :
    Calls Tryz.prog 11 #[.pointer (some ⟨Y.tb, 0, none⟩), .int .i64 i] w fun e w' => e = .returned (.int .i64 0) ∧ VT w0 K L0 v (letAll X p.maps) { Y with runs := del Y.runs i } w' := by
  obtain ⟨t0, t1, t2⟩ := h.tab
  have hl := h.foundYes hp
  obtain ⟨o', L1, hdel, hs1, hpc, h2⟩ := h.delRun hd hp
  obtain ⟨fa, fc, hfv⟩ : ∃ a c, p.mv = .slice a p.maps.length c := by
    obtain ⟨S, R, L, T, k1, _, _, k4, _⟩ := h2
    exact PcI.shape k1.ownL (hpc.imp id (k4 _))
  rw [hfv] at hpc
  obtain ⟨w2, hw2⟩ : ∃ w2, w2 = setBlock w Y.mb o' := ⟨_, rfl⟩
  rw [← hw2] at hdel h2
  have c2 : w2.cell? ⟨p.b, 2, none⟩ = some (.slice fa p.maps.length fc) := by
    rw [cell_at (h2.cellK (List.mem_cons_self ..)) 2, ← hfv]; rfl
  have hlt := lets_any h2 ho hN fa p.maps fc hpl fun w' X' k j hj => PcI.at hpc k j hj
  have HP := Lib.hid (fun w' (k : VT w0 ((p.b, .cells (prCells i p) 54) :: K) L1 v (letAll X p.maps) { Y with runs := del Y.runs i } w') => (show VT w0 K L0 v (letAll X p.maps) { Y with runs := del Y.runs i } w' from (k.rows hs1).blocks fun b x hb => List.mem_cons_of_mem _ hb))
  clear h h2 hpc hfv hp hw2
  go_enter Tryz.func11, Tryz.ntmps11
  go_wp2_with fail
  refine hlt.mono ?_
  rintro e w3 ⟨rfl, h3⟩
  have H3 := Lib.hid (HP.out w3 h3)
  clear h3 HP hlt
  go_wp2_with fail
  go_ret
  exact ⟨rfl, H3.out⟩
end
end Go.Proofs.YtlkgmhlaoahdlaaGreatDoor
end

/- What runs: it goes on or ends; something comes. -/
section
namespace Go.Proofs.YtlkgmhlaoahdlaaGreatDoor
open Go.RowKit
open Go.ChangeMaps (setBlock)
set_option linter.unusedVariables false
set_option linter.unusedSimpArgs false
set_option maxRecDepth 100000

section
variable {w0 w w' : World} {S S' S1 : Blocks} {R L L' L1 M L0 : List Rw} {v c n d : Nat} {X X' X1 X2 : VX} {T T' Tc T1 : Tr} {Y Y' : Tab} {K K' : Blocks} {fv : Value} {acc : List Int}
theorem pick_no (h : VT w0 K L0 v X Y w) (i : Int) (hp : look Y.runs i = none) : Calls Tryz.prog 10 #[.pointer (some ⟨Y.tb, 0, none⟩), .int .i64 i] w fun e w' => e = .returned (.tuple #[.bool false, .int .i64 8]) ∧ VT w0 K L0 v X Y w' := by
  obtain ⟨t0, t1, t2⟩ := h.tab
  have hl := h.foundNo hp
  have H := Lib.hid h
  clear h hp
  go_enter Tryz.func10, Tryz.ntmps10
  go_wp2_with fail
  go_ret2
  exact ⟨rfl, H.out⟩
theorem pick_on (h : VT w0 K L0 v X Y w) (i : Int) {p : Pr} (hp : look Y.runs i = some p) (he : p.ends = false) : Calls Tryz.prog 10 #[.pointer (some ⟨Y.tb, 0, none⟩), .int .i64 i] w fun e w' => e = .returned (.tuple #[.bool false, .int .i64 0]) ∧ VT w0 K L0 v X Y w' := by
  obtain ⟨t0, t1, t2⟩ := h.tab
  have hl := h.foundYes hp
  obtain ⟨c3, f3⟩ := h.proc hp 3
  have c3' : w.cell? ⟨p.b, 3, none⟩ = some (.bool false) := by rw [c3, ← he]; rfl
  have H := Lib.hid h
  clear h hp c3 f3
  go_enter Tryz.func10, Tryz.ntmps10
  go_wp2_with fail
  go_ret2
  exact ⟨rfl, H.out⟩
theorem pick_end {N : Nat} (h : VT w0 K L0 v X Y w) (hd : (Y.runs.map (·.1)).Nodup) (ho : HeldOk N X) (hN : N ≤ 1000000) (i : Int) {p : Pr} (hp : look Y.runs i = some p) (hpl : p.maps.length ≤ 1000000) (he : p.ends = true) : Calls Tryz.prog 10 #[.pointer (some ⟨Y.tb, 0, none⟩), .int .i64 i] w fun e w' => e = .returned (.tuple #[.bool true, .int .i64 0]) ∧ VT w0 K L0 v (letAll X p.maps) { Y with runs := del Y.runs i } w' := by
  obtain ⟨t0, t1, t2⟩ := h.tab
  have hl := h.foundYes hp
  obtain ⟨c3, f3⟩ := h.proc hp 3
  have c3' : w.cell? ⟨p.b, 3, none⟩ = some (.bool true) := by rw [c3, ← he]; rfl
  have hex := exit_yes h hd ho hN i hp hpl
  clear h hp c3 f3 hd ho
  go_enter Tryz.func10, Tryz.ntmps10
  go_wp2_with fail
  refine hex.mono ?_
  rintro e w3 ⟨rfl, h3⟩
  have H3 := Lib.hid h3
  clear h3 hex
  go_wp2_with fail
  go_ret2
  exact ⟨rfl, H3.out⟩
theorem spawn_many (h : VT w0 K L0 v X Y w) (u : ByteArray) (a : Option Addr) (m c : Nat) (hm : 8 < m) : Calls Tryz.prog 8 #[.pointer (some ⟨Y.tb, 0, none⟩), .string u, .slice a m c] w fun e w' => e = .returned (.tuple #[.int .i64 0, .int .i64 22]) ∧ VT w0 K L0 v X Y w' := by
  have b8 : (8 : Int) < (m : Int) := by exact_mod_cast hm
  have H := Lib.hid h
  clear h hm
  go_enter Tryz.func8, Tryz.ntmps8
  go_wp2_with fail
  go_ret2
  exact ⟨rfl, H.out⟩
theorem spawn_full (h : VT w0 K L0 v X Y w) (u : ByteArray) (a : Option Addr) (m c : Nat) (hm : m ≤ 8) (hr : 32 ≤ Y.runs.length) : Calls Tryz.prog 8 #[.pointer (some ⟨Y.tb, 0, none⟩), .string u, .slice a m c] w fun e w' => e = .returned (.tuple #[.int .i64 0, .int .i64 7]) ∧ VT w0 K L0 v X Y w' := by
  obtain ⟨t0, t1, t2⟩ := h.tab
  have hl := h.len
  have b8 : ¬ (8 : Int) < (m : Int) := by omega
  have b32 : (32 : Int) ≤ (Y.runs.length : Int) := by exact_mod_cast hr
  have H := Lib.hid h
  clear h hm hr
  go_enter Tryz.func8, Tryz.ntmps8
  go_wp2_with fail
  go_ret2
  exact ⟨rfl, H.out⟩
set_option maxHeartbeats 2000000 in
theorem spawn_no {N : Nat} (h : VT w0 K L0 v X Y w) (hm : Mx w0) (ho : HeldOk N X) (u : ByteArray) (a : Option Addr) (ps : List ByteArray) (c : Nat) (hN : N + ps.length ≤ 1000000) (hsz : ∀ p ∈ ps, p.size ≤ maxLen) (hps : ∀ w' X', VT w0 K L0 v X' Y w' → ∀ i (h : i < ps.length), ∃ g o, a = some ⟨g, o, none⟩ ∧ w'.cell? ⟨g, o + i, none⟩ = some (.string ps[i]))
    (h8 : ps.length ≤ 8) (h32 : Y.runs.length < 32) {e0 : Int} {ids : List Int} (hH : holdFrom (X, []) (ps.map fun p => p.data.toList) = (e0, ids, X1)) (he : e0 ≠ 0) :
    Calls Tryz.prog 8 #[.pointer (some ⟨Y.tb, 0, none⟩), .string u, .slice a ps.length c] w fun e w' => e = .returned (.tuple #[.int .i64 0, .int .i64 e0]) ∧ VT w0 K L0 v X1 Y w' := by
  obtain ⟨t0, t1, t2⟩ := h.tab
  have hl := h.len
  have b8 : ¬ (8 : Int) < (ps.length : Int) := by omega
  have b32 : ¬ (32 : Int) ≤ (Y.runs.length : Int) := by omega
  have hne : (e0 != 0) = true := by simp [he]
  have hh := holds_any h hm ho a ps c hN hsz hps
  have hh2 : Calls Tryz.prog 20 #[.pointer (some ⟨Y.tb, 0, none⟩), .slice a ps.length c] w fun e w' => ∃ fv, e = .returned (.tuple #[fv, .int .i64 e0]) ∧ VTR w0 K L0 v X1 Y fv ids w' := hh.mono fun e w' k => by
    unfold HoldAt at k
    rw [hH] at k
    exact k
  clear h hh hps hsz hH ho h8 h32 hN
  go_enter Tryz.func8, Tryz.ntmps8
  go_wp2_with fail
  refine hh2.mono ?_
  rintro e w5 ⟨fv, rfl, h5⟩
  have H5 := Lib.hid h5.weak
  clear h5 hh2
  go_wp2_with fail
  go_ret2
  exact ⟨rfl, H5.out⟩
set_option maxHeartbeats 4000000 in
theorem spawn_yes {N : Nat} (h : VT w0 K L0 v X Y w) (hm : Mx w0) (ho : HeldOk N X) (u : ByteArray) (a : Option Addr) (ps : List ByteArray) (c : Nat) (hN : N + ps.length ≤ 1000000) (hsz : ∀ p ∈ ps, p.size ≤ maxLen) (hps : ∀ w' X', VT w0 K L0 v X' Y w' → ∀ i (h : i < ps.length), ∃ g o, a = some ⟨g, o, none⟩ ∧ w'.cell? ⟨g, o + i, none⟩ = some (.string ps[i]))
    (h8 : ps.length ≤ 8) (h32 : Y.runs.length < 32) {ids : List Int} (hH : holdFrom (X, []) (ps.map fun p => p.data.toList) = (0, ids, X1)) (hl1 : 0 ≤ Y.last ∧ Y.last ≤ 1000000000) (hfr : look Y.runs (Y.last + 1) = none) :
    Calls Tryz.prog 8 #[.pointer (some ⟨Y.tb, 0, none⟩), .string u, .slice a ps.length c] w fun e w' => e = .returned (.tuple #[.int .i64 (Y.last + 1), .int .i64 0]) ∧ ∃ b fv, VT w0 K L0 v X1 { Y with last := Y.last + 1, runs := put Y.runs (Y.last + 1) ⟨b, u, fv, ids, false⟩ } w' := by
  obtain ⟨t0, t1, t2⟩ := h.tab
  have hl := h.len
  have b8 : ¬ (8 : Int) < (ps.length : Int) := by omega
  have b32 : ¬ (32 : Int) ≤ (Y.runs.length : Int) := by omega
  have hh := holds_any h hm ho a ps c hN hsz hps
  have hh2 : Calls Tryz.prog 20 #[.pointer (some ⟨Y.tb, 0, none⟩), .slice a ps.length c] w fun e w' => ∃ fv, e = .returned (.tuple #[fv, .int .i64 0]) ∧ VTR w0 K L0 v X1 Y fv ids w' := hh.mono fun e w' k => by
    unfold HoldAt at k
    rw [hH] at k
    exact k
  have hwr : IntKind.i64.wrap (Y.last + 1) = Y.last + 1 := IntWalk.i64_in _ (by omega)
  have Hfr := Lib.hid hfr
  clear h hh hps hsz hH ho h8 h32 hN hfr
  go_enter Tryz.func8, Tryz.ntmps8
  go_wp2_with fail
  refine hh2.mono ?_
  rintro e w5 ⟨fv, rfl, h5⟩
  obtain ⟨fa, fc, hfv⟩ : ∃ a c, fv = .slice a ids.length c := by
    obtain ⟨S, R, L, T, k1, _⟩ := h5
    exact PcI.shape k1.ownL (.inr (List.mem_cons_self ..))
  subst hfv
  have k5 := h5.vt
  obtain ⟨d0, d1, d2⟩ := k5.tab
  have f1 := k5.free 1
  have k6 := (k5.setLast (Y.last + 1)).drew
  have f6 := (k5.setLast (Y.last + 1)).tab.2.1
  have g6 : (w5.setCell ⟨Y.tb, 1, none⟩ (.int .i64 (Y.last + 1))).drew.cell? ⟨Y.tb, 1, none⟩ = some (.int .i64 (Y.last + 1)) ∧ (w5.setCell ⟨Y.tb, 1, none⟩ (.int .i64 (Y.last + 1))).drew.cell? ⟨Y.tb, 2, none⟩ = some (.map (some Y.mb)) := k6.tab.2
  obtain ⟨w6, hw6⟩ : ∃ w6, w6 = w5.setCell ⟨Y.tb, 1, none⟩ (.int .i64 (Y.last + 1)) := ⟨_, rfl⟩
  rw [← hw6] at k6 g6
  obtain ⟨o', hup, k7⟩ := k6.addRun (i := Y.last + 1) Hfr.out ⟨w6.drew.heap.size, u, .slice fa ids.length fc, ids, false⟩ rfl (.inr (List.mem_cons_self ..))
  unfold prCells at hup k7
  dsimp only at hup k7
  have g7 := k7.tab.2
  dsimp only at g7
  have g8 : (w6.drew.alloc (.cells #[.int .i64 (Y.last + 1), .string u, .slice fa ids.length fc, .bool false] 54)).cell? ⟨Y.tb, 1, none⟩ = some (.int .i64 (Y.last + 1)) ∧ (w6.drew.alloc (.cells #[.int .i64 (Y.last + 1), .string u, .slice fa ids.length fc, .bool false] 54)).cell? ⟨Y.tb, 2, none⟩ = some (.map (some Y.mb)) := by
    obtain ⟨S, R, L, T, q1, q2, _⟩ := k6
    have hO := q1.own.newB (.cells #[.int .i64 (Y.last + 1), .string u, .slice fa ids.length fc, .bool false] 54)
    have hc := List.mem_cons_of_mem (w6.drew.heap.size, Obj.cells #[.int .i64 (Y.last + 1), .string u, .slice fa ids.length fc, .bool false] 54) q2.cells
    exact ⟨by rw [hO.cellB hc]; rfl, by rw [hO.cellB hc]; rfl⟩
  have HP := Lib.hid (show ∃ b fv, VT w0 K L0 v X1 { Y with last := Y.last + 1, runs := put Y.runs (Y.last + 1) ⟨b, u, fv, ids, false⟩ } (setBlock (w6.drew.alloc (.cells #[.int .i64 (Y.last + 1), .string u, .slice fa ids.length fc, .bool false] 54)) Y.mb o') from ⟨_, _, k7.rows fun x hx => List.mem_cons_of_mem _ hx⟩)
  have hup2 : (Instr.mapUpdate 66 (.map (some Y.mb)) (.int .i64 (Y.last + 1)) (.pointer (some ⟨w6.heap.size, 0, none⟩))).run Tryz.prog (w6.alloc (.cells #[.int .i64 (Y.last + 1), .string u, .slice fa ids.length fc, .bool false] 54)).drew = .ok () (setBlock (w6.drew.alloc (.cells #[.int .i64 (Y.last + 1), .string u, .slice fa ids.length fc, .bool false] 54)) Y.mb o') := hup
  have g8' : (w6.alloc (.cells #[.int .i64 (Y.last + 1), .string u, .slice fa ids.length fc, .bool false] 54)).drew.cell? ⟨Y.tb, 1, none⟩ = some (.int .i64 (Y.last + 1)) ∧ (w6.alloc (.cells #[.int .i64 (Y.last + 1), .string u, .slice fa ids.length fc, .bool false] 54)).drew.cell? ⟨Y.tb, 2, none⟩ = some (.map (some Y.mb)) := g8
  obtain ⟨W7, hW7⟩ : ∃ W7, W7 = setBlock (w6.drew.alloc (.cells #[.int .i64 (Y.last + 1), .string u, .slice fa ids.length fc, .bool false] 54)) Y.mb o' := ⟨_, rfl⟩
  rw [← hW7] at hup2 HP g7
  clear h5 hh2 k5 k6 k7 hup hW7 g8
  go_wp2_with fail
  rw [← hw6]
  clear hw6 d0 d1 d2 f1 f6
  go_region_held3 (fun w' : World => w'.cell? ⟨Y.tb, 1, none⟩ = some (.int .i64 (Y.last + 1)) ∧ w'.cell? ⟨Y.tb, 2, none⟩ = some (.map (some Y.mb))) (first | exact g6 | exact g8' | exact g7) (fail)
  all_goals go_wp2_with fail
  all_goals go_ret2
  all_goals exact ⟨rfl, HP.out⟩
end
end Go.Proofs.YtlkgmhlaoahdlaaGreatDoor
end

/- The numbers of all that runs, in order. -/
section
namespace Go.Proofs.YtlkgmhlaoahdlaaGreatDoor
open Go.RowKit Go.Maps Go.Shelf
open Go.ChangeMaps (setBlock)
open Go.WideElems (Fit rd rg)
set_option linter.unusedVariables false
set_option linter.unusedSimpArgs false
set_option maxRecDepth 100000

def zOf (v : Value) : Int := match v with
  | .int _ z => z
  | _ => 0
theorem keyOf_i {i : Int} (h : 0 ≤ i ∧ i ≤ 4000000000) : keyOf Tryz.prog 3 (.int .i64 i) = some (.int .i64 i) := by
  have hw : (Lit.int .i64 i).wf = true := by simp [Lit.wf, IntKind.min, IntKind.max, IntKind.signed, IntKind.bits]; omega
  unfold keyOf mapKey
  rw [Tryz.underlying3]
  simp [hw]
theorem owns_ofI {w : World} {b : Nat} {o : Obj} {m : List (Int × Value)} (h : MapO KI o m) (hb : w.heap[b]? = some o) (hd : (m.map (·.1)).Nodup) (hs : ∀ p ∈ m, 0 ≤ p.1 ∧ p.1 ≤ 4000000000) (hn : m.length ≤ maxLen) :
    ∃ D0 : DataW Unit, w.ownsMap Tryz.prog 3 noR b m.length D0 ∧ (intKeys D0).Perm (m.map (·.1)) ∧ Maps.size D0 = m.length := by
  obtain ⟨es, clock, rfl, h1, h2, h3⟩ := h
  have hk : es.toList.map (·.key) = m.map fun p => KI p.1 := by
    have := congrArg (List.map (·.1)) h1
    rw [List.map_map, List.map_map] at this
    exact this
  have hsz : es.size = m.length := by
    have := congrArg List.length hk
    simpa using this
  have hkey : ∀ x ∈ es.toList, ∃ i : Int, x.key = .int .i64 i ∧ 0 ≤ i ∧ i ≤ 4000000000 := fun x hx => by
    have : x.key ∈ m.map fun p => KI p.1 := by rw [← hk]; exact List.mem_map.2 ⟨x, hx, rfl⟩
    obtain ⟨p, hp, e⟩ := List.mem_map.1 this
    exact ⟨p.1, e.symm, hs p hp⟩
  have hrd : ∀ x ∈ es.toList, rd Tryz.prog 3 noR x = some (.int .i64 (zOf x.key), .nil) := fun x hx => by
    obtain ⟨s, e, hs⟩ := hkey x hx
    unfold rd
    rw [e, keyOf_i hs]; rfl
  refine ⟨_, ⟨es, clock, hb, ⟨by omega, ⟨h3, h2, ?_⟩, fun x hx => ⟨_, hrd x hx⟩⟩, by omega, rfl⟩, ?_, ?_⟩
  · rw [hk]
    have : (m.map fun p => KI p.1) = (m.map (·.1)).map KI := by rw [List.map_map]; rfl
    rw [this]
    exact hd.map (f := KI) (fun a b hne e => hne (by injection e))
  · have hp := (Go.WideShapes.sorted_perm (es.toList.map (rg Tryz.prog 3 noR))).map (fun p => Go.intOf p.1)
    refine List.Perm.trans hp ?_
    rw [List.map_map]
    have e1 : es.toList.map ((fun p : Lit × DataW Unit => Go.intOf p.1) ∘ rg Tryz.prog 3 noR) = es.toList.map fun x => zOf x.key := List.map_congr_left fun x hx => by
      simp only [Function.comp, rg, hrd x hx]; rfl
    rw [e1, show (es.toList.map fun x => zOf x.key) = (es.toList.map (·.key)).map zOf by rw [List.map_map]; rfl, hk, List.map_map]
    exact List.Perm.refl _
  · rw [Maps.size_eq, Go.length_sorted, List.length_map]
    simpa using hsz
section
variable {w0 w w' : World} {R L L' L1 M L0 : List Rw} {v : Nat} {X X' : VX} {Y Y' : Tab} {K K' : Blocks}
set_option maxHeartbeats 2000000 in
theorem plist_any (h : VT w0 K L0 v X Y w) (hd : (Y.runs.map (·.1)).Nodup) (hs : ∀ p ∈ Y.runs, 0 ≤ p.1 ∧ p.1 ≤ 4000000000) (hn : Y.runs.length ≤ 1000000) :
    Calls Tryz.prog 14 #[.pointer (some ⟨Y.tb, 0, none⟩)] w fun e w' => ∃ (lv : Value) (ss : List Int), e = .returned lv ∧ ss.Perm (Y.runs.map (·.1)) ∧
      w'.ownsRow w.heap.size 3 1 lv ss.length ((ss.mergeSort (fun x y => decide (x ≤ y))).map encZ) ∧ Below w.heap.size w w' := by
  obtain ⟨t0, t1, t2⟩ := h.tab
  obtain ⟨D0, hown, hperm, hsz0⟩ : ∃ D0 : DataW Unit, w.ownsMap Tryz.prog 3 noR Y.mb Y.runs.length D0 ∧ (intKeys D0).Perm (Y.runs.map (·.1)) ∧ Maps.size D0 = Y.runs.length := by
    obtain ⟨S, R, L, T, h1, h2, _⟩ := h
    obtain ⟨o, m1, m2⟩ := h2.map
    have e1 : (runsV Y.runs).map (·.1) = Y.runs.map (·.1) := by unfold runsV; rw [List.map_map]; rfl
    have e2 : (runsV Y.runs).length = Y.runs.length := by simp [runsV]
    have := owns_ofI m2 (h1.own.at m1) (by rw [e1]; exact hd) (fun p hp => by
      obtain ⟨q, hq, rfl⟩ := List.mem_map.1 hp
      exact hs q hq) (by rw [e2]; unfold maxLen; omega)
    rw [e1, e2] at this
    exact this
  have hml : Y.runs.length ≤ maxLen := by unfold maxLen; omega
  have hby : Y.runs.length * 8 ≤ 140737488355328 := by omega
  clear h hd hs
  refine (callsIn_wide (n := 6)).1 ?_
  have hfK : Fence.wide.fn 24 := trivial
  have hfS : Fence.wide.fn 23 := trivial
  refine callsIn_of_wp Tryz.func14 rfl trivial ?_ rfl
  simp only [Tryz.ntmps14, List.size_toArray, List.length_cons, List.length_nil, Nat.reduceAdd, Nat.reduceSub, Array.replicate_succ, Array.replicate_zero, List.push_toArray, List.append_toArray, List.nil_append, List.cons_append]
  gi_wp2_with (first
    | (gi_at_call 24; refine (Tryz.maps_Keys_24 _ _).mono ?_; rintro e w' ⟨rfl, rfl⟩)
    | (gi_at_call 23; refine (Tryz.slices_Sorted_keysI_24 Y.mb Y.runs.length D0 noR w hown (by rw [hsz0]; exact hml) (by rw [hsz0]; exact hby)).mono ?_; rintro e w' ⟨lv, ss, rfl, hS, hrow, hnil, hb⟩))
  have hle : w.heap.size ≤ (w.alloc (.cells #[.map (some Y.mb)] 66)).heap.size := by simp
  go_ret
  exact ⟨lv, ss, rfl, hS.trans hperm, ownsRow_base hrow hle, ((Below.refl _ w).alloc (Nat.le_refl _) _).trans (hb.mono hle)⟩
end
end Go.Proofs.YtlkgmhlaoahdlaaGreatDoor
end

/- A table of nothing; all is forgotten; something that runs is told. -/
section
namespace Go.Proofs.YtlkgmhlaoahdlaaGreatDoor
open Go.RowKit
open Go.ChangeMaps (setBlock)
open Go.MapKept (run_setObj_map)
set_option linter.unusedVariables false
set_option linter.unusedSimpArgs false
set_option maxRecDepth 100000

section
variable {P : Program} {α : Type} {w : World} {b : Nat} {o : Obj} {mt kt et : TypeId} {K : α → Value} {m : List (α × Value)}
theorem MapO.clear (hm : P.underlying mt = some (.map kt et)) (h : MapO K o m) (hb : w.heap[b]? = some o) (ty : TypeId) :
    ∃ o', (Builtin.clear_ #[mt] ty #[.map (some b)]).run P w = .ok (.tuple #[]) (setBlock w b o') ∧ MapO K o' [] := by
  obtain ⟨es, clock, rfl, h1, h2, h3⟩ := h
  refine ⟨.map #[] clock, ?_, #[], clock, rfl, rfl, List.nodup_nil, fun e he => by simp at he⟩
  unfold Builtin.clear_
  simp [Sem.run_bind, run_underlying hm, MapKept.run_getObj_map hb, run_setObj_map _ hb, Result.andThen, setBlock, Sem.run]
end
section
variable {w0 w w' : World} {S S' S1 : Blocks} {R L L' L1 M L0 : List Rw} {v c n d : Nat} {X X' X1 X2 : VX} {T T' Tc T1 : Tr} {Y Y' : Tab} {K K' : Blocks} {fv : Value} {acc : List Int}
theorem VT.clears (h : VT w0 K L0 v X Y w) (ty : TypeId) : ∃ o', (Builtin.clear_ #[66] ty #[.map (some Y.mb)]).run Tryz.prog w = .ok (.tuple #[]) (setBlock w Y.mb o') ∧ VT w0 K L0 v X { Y with runs := [] } (setBlock w Y.mb o') := by
  obtain ⟨S, R, L, T, h1, h2, h3, h4, h5⟩ := h
  obtain ⟨o, m1, m2⟩ := h2.map
  obtain ⟨o', hcl, m3⟩ := m2.clear Tryz.underlying66 (h1.own.at m1) ty
  have hO := h1.own.setB m1 o'
  have hn1 := List.nodup_cons.1 h2.apart
  have hfs : ({ Y with runs := [] } : Tab).foot.Sublist Y.foot := ((List.nil_sublist _).cons_cons _).cons_cons _
  have hk : ∀ b x, (b, x) ∈ S → b ≠ Y.mb → (b, x) ∈ upd S Y.mb o' := fun b x hb hne => upd_other hb hne _
  exact ⟨o', hcl, VT.turn h1 h3 h4 h5 hO (fun b x hb hne => hk b x hb fun e => hne (e ▸ List.mem_cons_of_mem _ (List.mem_cons_self ..))) ⟨hk _ _ h2.cells fun e => hn1.1 (e ▸ List.mem_cons_self ..), ⟨o', upd_same m1 _, m3⟩, (fun q hq => by cases hq), h2.apart.sublist hfs⟩ fun b hb => .inl (hfs.subset hb)⟩
theorem VT.setFiles (h : VT w0 K L0 v X Y w) : VT w0 K L0 v X Y (w.setCell ⟨Y.tb, 0, none⟩ (filesV v)) := by
  obtain ⟨S, R, L, T, h1, h2, h3, h4, h5⟩ := h
  have hO := h1.own.storeB h2.cells 0 (filesV v)
  have hO' : Own ⟨w0, upd S Y.tb (.cells (tabCells v Y) 68)⟩ (w.setCell ⟨Y.tb, 0, none⟩ (filesV v)) (R ++ L) := hO
  have hn := List.nodup_cons.1 h2.apart
  have hk : ∀ b x, (b, x) ∈ S → b ≠ Y.tb → (b, x) ∈ upd S Y.tb (.cells (tabCells v Y) 68) := fun b x hb hne => upd_other hb hne _
  obtain ⟨o, m1, m2⟩ := h2.map
  refine VT.turn h1 h3 h4 h5 hO' (fun b x hb hne => hk b x hb fun e => hne (e ▸ List.mem_cons_self ..)) ⟨upd_same h2.cells _, ⟨o, hk _ _ m1 fun e => hn.1 (e ▸ List.mem_cons_self ..), m2⟩, fun p hp => ?_, h2.apart⟩ fun b hb => .inl hb
  obtain ⟨r1, r2⟩ := h2.run p hp
  exact ⟨hk _ _ r1 fun e => hn.1 (e ▸ List.mem_cons_of_mem _ (List.mem_map.2 ⟨p, hp, rfl⟩)), r2⟩
theorem reset_same (h : VT w0 K L0 v X Y w) : Calls Tryz.prog 15 #[.pointer (some ⟨Y.tb, 0, none⟩), filesV v] w fun e w' => e = .returned (.tuple #[]) ∧ VT w0 K L0 v X { Y with runs := [] } w' := by
  obtain ⟨t0, t1, t2⟩ := h.tab
  have f0 := h.free 0
  have h1 := h.setFiles
  obtain ⟨_, _, d2⟩ := h1.tab
  obtain ⟨o', hcl0, h2⟩ := h1.clears 0
  have hcl : ∀ ty, (Builtin.clear_ #[66] ty #[.map (some Y.mb)]).run Tryz.prog (w.setCell ⟨Y.tb, 0, none⟩ (filesV v)) = .ok (.tuple #[]) (setBlock (w.setCell ⟨Y.tb, 0, none⟩ (filesV v)) Y.mb o') := fun ty => hcl0
  have HP := Lib.hid h2
  unfold filesV at *
  clear h h1 h2 hcl0
  go_enter Tryz.func15, Tryz.ntmps15
  go_wp2_with fail
  go_end0
  exact ⟨rfl, HP.out⟩
theorem pnew_any (h : VolAt w0 w K L0 v X) : Calls Tryz.prog 7 #[filesV v] w fun e w' => ∃ Y : Tab, e = .returned (.pointer (some ⟨Y.tb, 0, none⟩)) ∧ Y.last = 0 ∧ Y.runs = [] ∧ VT w0 K L0 v X Y w' := by
  obtain ⟨S, R, L, T, h1, h4, h5⟩ := h
  have hO1 := h1.own.newB (.map #[] 0)
  have hO := hO1.newB (.cells (tabCells v ⟨w.heap.size + 1, w.heap.size, 0, []⟩) 68)
  rw [show (w.alloc (.map #[] 0)).heap.size = w.heap.size + 1 by simp] at hO
  have hk : ∀ b x, (b, x) ∈ S → (b, x) ∈ (w.heap.size + 1, Obj.cells (tabCells v ⟨w.heap.size + 1, w.heap.size, 0, []⟩) 68) :: (w.heap.size, Obj.map #[] 0) :: S := fun b x hb => List.mem_cons_of_mem _ (List.mem_cons_of_mem _ hb)
  have hV : VT w0 K L0 v X ⟨w.heap.size + 1, w.heap.size, 0, []⟩ ((w.alloc (.map #[] 0)).alloc (.cells (tabCells v ⟨w.heap.size + 1, w.heap.size, 0, []⟩) 68)) := by
    refine ⟨_, R, L, T, h1.base hO fun b x hx _ => hk b x hx, ⟨List.mem_cons_self .., ⟨_, List.mem_cons_of_mem _ (List.mem_cons_self ..), MapO.empty _⟩, (fun q hq => by cases hq), ?_⟩, fun b hb hx => ?_, h4, fun b x hb => ?_⟩
    · show [w.heap.size + 1, w.heap.size].Nodup
      simp
    · have h6 : b ∈ [w.heap.size + 1, w.heap.size] := hb
      have h7 := (h1.lt hx).2
      simp at h6; omega
    · obtain ⟨q1, q2⟩ := h5 b x hb
      refine ⟨hk b x q1, q2, fun h6 => ?_⟩
      have h6 : b ∈ [w.heap.size + 1, w.heap.size] := h6
      have h7 := (h1.own.atLt q1).2
      simp at h6; omega
  have HP := Lib.hid hV
  unfold tabCells filesV at *
  clear hV hO hO1 h1 hk h5
  have hmk : ∀ w, (Instr.makeMap 66 none).run Tryz.prog w = .ok (.map (some w.heap.size)) (w.alloc (.map #[] 0)) := fun w => rfl
  go_enter Tryz.func7, Tryz.ntmps7
  go_wp2_with fail
  go_ret
  exact ⟨⟨w.heap.size + 1, w.heap.size, 0, []⟩, rfl, rfl, rfl, HP.out⟩
end
end Go.Proofs.YtlkgmhlaoahdlaaGreatDoor
end

/- Numbers are copied; something that runs is told. -/
section
namespace Go.Proofs.YtlkgmhlaoahdlaaGreatDoor
open Go.RowKit
open Go.ChangeMaps (setBlock)
set_option linter.unusedVariables false
set_option linter.unusedSimpArgs false
set_option maxRecDepth 100000

section
variable {w0 w w' : World} {S S' S1 : Blocks} {R L L' L1 M L0 : List Rw} {v c n d : Nat} {X X' X1 X2 : VX} {T T' Tc T1 : Tr} {Y Y' : Tab} {K K' : Blocks} {fv : Value} {acc : List Int}
set_option maxHeartbeats 800000 in
theorem cloneI_any (w : World) (a : Option Addr) (acc : List Int) (cap : Nat) (hl : acc.length ≤ 1000000) (hn : a = none → acc = []) (hr : ∀ i (h : i < acc.length), ∃ g off, a = some ⟨g, off, none⟩ ∧ w.cell? ⟨g, off + i, none⟩ = some (.int .i64 acc[i])) (hform : ∀ b, a = some b → ∃ g off, b = ⟨g, off, none⟩) :
    Calls Tryz.prog 25 #[.slice a acc.length cap] w fun e w' => ∃ v, e = .returned v ∧ Own w w' [rowI v acc] := by
  obtain ⟨i0, hi, hz0, hz1, hz2⟩ := info_parts info_i
  cases a with
  | none =>
    have hn' := hn rfl
    subst hn'
    have hnil : Sem.run Tryz.prog (binOp BinOp.eql 22 (.slice none 0 cap) (.slice none 0 0)) w = .ok (.bool true) w := Lib.run_eql_slice_nil (P := Tryz.prog) w 22 3 none 0 cap 0 0 Tryz.underlying22
    clear hr hn hform
    go_enter Tryz.func25, Tryz.ntmps25
    go_wp2_with fail
    go_ret
    exact ⟨_, rfl, (Own.start w).nil _ _⟩
  | some ad =>
    obtain ⟨g, off, rfl⟩ := hform ad rfl
    have hs : Src w (.slice (some ⟨g, off, none⟩) acc.length cap) acc.length (acc.map (Value.int .i64)) := by
      refine .inr ⟨_, _, rfl, fun j u hj => ?_, fun u hu => by obtain ⟨z, _, rfl⟩ := List.mem_map.1 hu; rfl⟩
      have hj4 : j < acc.length := by
        have := (List.getElem?_eq_some_iff.1 hj).1
        simpa using this
      obtain ⟨g2, o2, e2, h2⟩ := hr j hj4
      injection e2 with e2
      injection e2 with e3 e4
      subst e3 e4
      rw [List.getElem?_map, List.getElem?_eq_getElem hj4] at hj
      rw [Addr.add_mid, h2]
      simpa using hj
    have hnil : Sem.run Tryz.prog (binOp BinOp.eql 22 (.slice (some ⟨g, off, none⟩) acc.length cap) (.slice none 0 0)) w = .ok (.bool false) w := Lib.run_eql_slice_nil (P := Tryz.prog) w 22 3 (some ⟨g, off, none⟩) acc.length cap 0 0 Tryz.underlying22
    have HO := Lib.hid ((Own.start w).made 3 1 #[] 0 rfl (Nat.zero_le _))
    have Hs := Lib.hid (hs.later (Below.alloc (Below.refl _ w) (Nat.le_refl _) (.cells #[] 3)))
    have Hl := Lib.hid (show (acc.map (Value.int .i64)).length = acc.length * 1 by simp)
    have hl2 : 0 + acc.length ≤ maxLen := by unfold maxLen; omega
    have hl3 : (0 + acc.length) * 8 ≤ 140737488355328 := by omega
    clear hs hr hn hform
    go_enter Tryz.func25, Tryz.ntmps25
    go_wp2_with (at_builtin; refine wpList_append_src rfl (.tmp 5) (.tmp 6) 22 rfl (.slice (some ⟨w.heap.size, 0, none⟩) 0 0) 0 [] (.slice (some ⟨g, off, none⟩) acc.length cap) acc.length (acc.map (Value.int .i64)) rfl rfl HO.out i0 (.int .i64 0) 8 Tryz.underlying22 hi hz0 hz1 hz2 rfl (by decide) Hs.out Hl.out hl2 hl3 ?_)
    intro v' w' hO'
    have HO' := Lib.hid hO'
    clear hO'
    go_wp2_with fail
    go_ret
    exact ⟨_, rfl, by have := HO'.out; simpa [rowI] using this⟩
def rQ (g : Nat) (xs : List Value) : Rw := ⟨54, 4, .slice (some ⟨g, 0, none⟩) 1 1, 1, xs⟩
def zQ : List Value := [.int .i64 0, .string ⟨#[]⟩, .slice none 0 0, .bool false]
theorem Own.boxQ {W0 : Base} {w : World} {L : List Rw} (h : Own W0 w L) (xs : List Value) (hx : xs.length = 4) (g : Nat) (hg : g = w.heap.size) : Own W0 (w.alloc (.cells xs.toArray 54)) (rQ g xs :: L) :=
  h.made_at 54 4 xs.toArray 1 g hg (by simp [hx]) (by unfold maxLen; decide)
theorem Own.setQ {W0 : Base} {w : World} {g : Nat} {xs : List Value} {L : List Rw} (h : Own W0 w (rQ g xs :: L)) (ys : List Value) (hx : xs.length = ys.length) : Own W0 (w.setCells g 0 ys) (rQ g ys :: L) := by
  have h1 := Own.setCells (h := h) ys 0
  rw [splice_all' xs ys hx] at h1
  exact h1
theorem Own.rangeQ {W0 : Base} {w : World} {g : Nat} {xs : List Value} {L : List Rw} (h : Own W0 w (rQ g xs :: L)) (hx : xs.length = 4) : w.rangeAt g 0 xs := by
  have h1 := Own.range (h := h) 0 4
  rw [List.drop_zero, ← hx, List.take_length] at h1
  exact h1
theorem info_proc : (Tryz.prog.info? 54).map (·.size) = some 4 := by kernel_rfl
theorem get_no (h : VT w0 K L0 v X Y w) (i : Int) (hp : look Y.runs i = none) : Calls Tryz.prog 16 #[.pointer (some ⟨Y.tb, 0, none⟩), .int .i64 i] w fun e w' => e = .returned (.tuple #[.agg zQ.toArray, .bool false]) ∧ VT w0 K L0 v X Y w' := by
  obtain ⟨t0, t1, t2⟩ := h.tab
  have hO := (Own.start w).boxQ zQ rfl w.heap.size rfl
  have h2 := h.later hO.below
  obtain ⟨_, _, d2⟩ := h2.tab
  have hl := h2.foundNo hp
  have cr := Lib.hid (hO.rangeQ rfl)
  have H := Lib.hid h2
  unfold zQ at *
  clear h hp h2 hO
  go_enter Tryz.func16, Tryz.ntmps16
  go_wp2_with fail
  refine bodyPost_ret (v := .tuple #[.agg zQ.toArray, .bool false]) (ret_cell_tmpT Tryz.results16 rfl rfl cr.out Tryz.underlying54 rfl info_proc) rfl ?_
  exact ⟨rfl, H.out⟩
theorem VT.cells (h : VT w0 K L0 v X Y w) {i : Int} {p : Pr} (hp : look Y.runs i = some p) : w.cell? ⟨p.b, 0, none⟩ = some (.int .i64 i) ∧ w.cell? ⟨p.b, 1, none⟩ = some (.string p.u) ∧ w.cell? ⟨p.b, 2, none⟩ = some p.mv ∧ w.cell? ⟨p.b, 3, none⟩ = some (.bool p.ends) :=
  ⟨(h.proc hp 0).1, (h.proc hp 1).1, (h.proc hp 2).1, (h.proc hp 3).1⟩
theorem Own.cellsQ {W0 : Base} {w : World} {g : Nat} {a b c d : Value} {L : List Rw} (h : Own W0 w (rQ g [a, b, c, d] :: L)) :
    (w.cell? ⟨g, 0, none⟩ = some a ∧ w.cell? ⟨g, 1, none⟩ = some b ∧ w.cell? ⟨g, 2, none⟩ = some c ∧ w.cell? ⟨g, 3, none⟩ = some d) ∧ w.frozen? ⟨g, 0, none⟩ = false ∧ w.frozen? ⟨g, 1, none⟩ = false ∧ w.frozen? ⟨g, 2, none⟩ = false ∧ w.frozen? ⟨g, 3, none⟩ = false :=
  ⟨⟨Own.cell (h := h) 0 (by decide), Own.cell (h := h) 1 (by decide), Own.cell (h := h) 2 (by decide), Own.cell (h := h) 3 (by decide)⟩, Own.free (h := h) 0, Own.free (h := h) 1, Own.free (h := h) 2, Own.free (h := h) 3⟩
theorem PcI.addr {a : Option Addr} {cp : Nat} (h : PcI L0 (.slice a acc.length cp) acc) (hV : VT w0 K L0 v X Y w) : (a = none → acc = []) ∧ ∀ b, a = some b → ∃ g off, b = ⟨g, off, none⟩ := by
  rcases h with ⟨h1, h2⟩ | h
  · injection h1 with e1
    exact ⟨fun _ => h2, fun b hb => by rw [e1] at hb; cases hb⟩
  · obtain ⟨_, hr⟩ := hV.row h
    rcases hr.head.2 with ⟨h1, h2⟩ | ⟨g, cp2, cur, h1, _⟩
    · have h1' : Value.slice a acc.length cp = .slice none 0 0 := h1
      injection h1' with e1
      exact ⟨fun _ => List.eq_nil_of_length_eq_zero h2, fun b hb => by rw [e1] at hb; cases hb⟩
    · have h1' : Value.slice a acc.length cp = .slice (some ⟨g, 0, none⟩) acc.length cp2 := h1
      injection h1' with e1
      refine ⟨fun hn => (by rw [e1] at hn; cases hn), fun b hb => ?_⟩
      rw [e1] at hb
      injection hb with hb
      exact ⟨g, 0, hb.symm⟩
set_option maxHeartbeats 4000000 in
theorem get_yes (h : VT w0 K L0 v X Y w) (i : Int) {p : Pr} (hp : look Y.runs i = some p) (hpl : p.maps.length ≤ 1000000) : Calls Tryz.prog 16 #[.pointer (some ⟨Y.tb, 0, none⟩), .int .i64 i] w fun e w' => ∃ mv : Value, e = .returned (.tuple #[.agg #[.int .i64 i, .string p.u, mv, .bool p.ends], .bool true]) ∧ VT w0 K L0 v X Y w' ∧ Own w w' [rowI mv p.maps] := by
  obtain ⟨t0, t1, t2⟩ := h.tab
  have hO := (Own.start w).boxQ zQ rfl w.heap.size rfl
  have h2 := h.later hO.below
  obtain ⟨_, _, d2⟩ := h2.tab
  have hl := h2.foundYes hp
  obtain ⟨k0, k1, k2, k3⟩ := h2.cells hp
  obtain ⟨L1, hs1, hpc, hV1⟩ := h2.all
  have hpc := hpc _ (look_mem hp)
  dsimp only at hpc
  obtain ⟨fa, fc, hfv⟩ : ∃ a c, p.mv = .slice a p.maps.length c := by
    obtain ⟨S, R, L, T, q1, _, _, q4, _⟩ := hV1
    exact PcI.shape q1.ownL (hpc.imp id (q4 _))
  rw [hfv] at hpc k2
  have hsz : (w.alloc (.cells zQ.toArray 54)).heap.size = w.heap.size + 1 := by simp
  have hO2 := hO.boxQ [.int .i64 i, .string p.u, .slice fa p.maps.length fc, .bool p.ends] rfl (w.heap.size + 1) hsz.symm
  have hb2 := (Below.refl _ (w.alloc (.cells zQ.toArray 54))).alloc (Nat.le_refl _) (.cells ([.int .i64 i, .string p.u, .slice fa p.maps.length fc, .bool p.ends] : List Value).toArray 54)
  have m2 := ((h2.later hb2).cells hp).2.2.1
  rw [hfv] at m2
  have hVB := hV1.later hb2
  obtain ⟨ha1, ha2⟩ := PcI.addr hpc hVB
  have hcl := cloneI_any _ fa p.maps fc hpl ha1 (fun j hj => PcI.at hpc hVB j hj) ha2
  have H := Lib.hid h
  have HO2 := Lib.hid hO2
  unfold zQ at *
  clear h h2 hO hV1 hp hO2 hVB hpc ha1 ha2 hb2 hsz
  go_enter Tryz.func16, Tryz.ntmps16
  go_wp2_with fail
  refine hcl.mono ?_
  rintro e w3 ⟨mv, rfl, h3⟩
  obtain ⟨ma, mc, hmv, _, _⟩ := Own.sized (h := (show Own _ w3 (⟨3, 1, mv, p.maps.length, p.maps.map (Value.int .i64)⟩ :: []) from h3))
  subst hmv
  have hO3 := HO2.out.join h3
  have hO3 : Own w w3 (rQ (w.heap.size + 1) [.int .i64 i, .string p.u, .slice fa p.maps.length fc, .bool p.ends] :: rowI (.slice ma p.maps.length mc) p.maps :: [rQ w.heap.size zQ]) := hO3.swap
  have f3 := (Own.cellsQ hO3).2.2.2.1
  have e3 := (Own.cellsQ hO3).1.2.2.1
  have hO4 : Own w (w3.setCell ⟨w.heap.size + 1, 2, none⟩ (.slice ma p.maps.length mc)) (rQ (w.heap.size + 1) [.int .i64 i, .string p.u, .slice ma p.maps.length mc, .bool p.ends] :: rowI (.slice ma p.maps.length mc) p.maps :: [rQ w.heap.size zQ]) := Own.set (h := hO3) 2 _
  obtain ⟨⟨a0, a1, a2, a3⟩, _⟩ := Own.cellsQ hO4
  have hO4' : Own w (w3.setCell ⟨w.heap.size + 1, 2, none⟩ (.slice ma p.maps.length mc)) (rQ w.heap.size zQ :: rQ (w.heap.size + 1) [.int .i64 i, .string p.u, .slice ma p.maps.length mc, .bool p.ends] :: [rowI (.slice ma p.maps.length mc) p.maps]) := hO4.perm ((List.Perm.cons _ (List.Perm.swap ..)).trans (List.Perm.swap ..))
  obtain ⟨⟨b0, b1, b2, b3⟩, g0, g1, g2, g3⟩ := Own.cellsQ (show Own _ _ (rQ w.heap.size [.int .i64 0, .string ⟨#[]⟩, .slice none 0 0, .bool false] :: _) from hO4')
  have hO5 := hO4'.setQ [.int .i64 i, .string p.u, .slice ma p.maps.length mc, .bool p.ends] rfl
  have cr := Lib.hid (hO5.rangeQ rfl)
  have HP := Lib.hid (show ∃ mv : Value, Value.tuple #[.agg #[.int .i64 i, .string p.u, .slice ma p.maps.length mc, .bool p.ends], .bool true] = .tuple #[.agg #[.int .i64 i, .string p.u, mv, .bool p.ends], .bool true] ∧ VT w0 K L0 v X Y _ ∧ Own w _ [rowI mv p.maps] from ⟨_, rfl, H.out.later hO5.below, hO5.only (List.mem_cons_of_mem _ (List.mem_cons_of_mem _ (List.mem_cons_self ..)))⟩)
  clear hO3 hO4 hO4' hO5 h3 hcl HO2 H
  go_wp2_with fail
  refine bodyPost_ret (v := .tuple #[.agg ([.int .i64 i, .string p.u, .slice ma p.maps.length mc, .bool p.ends] : List Value).toArray, .bool true]) (ret_cell_tmpT Tryz.results16 rfl rfl cr.out Tryz.underlying54 rfl info_proc) rfl ?_
  obtain ⟨mv, e1, e2, e3⟩ := HP.out
  exact ⟨mv, congrArg Ending.returned e1, e2, e3⟩
end
end Go.Proofs.YtlkgmhlaoahdlaaGreatDoor
end

/- What was packed is unpacked as it is; a record is done again. -/
section
namespace Go.Proofs.YtlkgmhlaoahdlaaGreatDoor
open Go.RowKit
open Go.ChangeMaps (setBlock)
set_option linter.unusedVariables false
set_option linter.unusedSimpArgs false
set_option maxRecDepth 100000

theorem numP_le4 (n most : Int) (h0 : 0 ≤ n) (h1 : n ≤ most) (h2 : n < 4294967296) (l : List Int) : numP most (le4 n ++ l) false = (n, l, false) := by
  unfold numP
  rw [if_pos ⟨by rw [List.length_append, le4_length]; omega, by rw [num4_le4 n h0 h2]; exact h1⟩, num4_le4 n h0 h2]
  rfl
theorem bodP_sized (zs : List Int) (most : Int) (h1 : (zs.length : Int) ≤ most) (h2 : zs.length < 4294967296) (l : List Int) : bodP most (sizedL zs ++ l) false = (zs, l, false) := by
  have hn : num4 (sizedL zs ++ l) = zs.length := by
    unfold sizedL
    rw [List.append_assoc]
    exact num4_le4 _ (by omega) (by omega) _
  have hd : (sizedL zs ++ l).drop 4 = zs ++ l := rfl
  unfold bodP
  rw [if_pos ⟨by rw [List.length_append, sizedL_length]; omega, by rw [hn]; exact h1, by rw [hn, List.length_append, sizedL_length]; omega⟩]
  unfold bodyOf restOf
  rw [hn, hd]
  simp
theorem stepU_pack (acc : List OpB) (o : OpB) (h : OkB o) (l : List Int) : stepU (acc, packB o ++ l, false) = (acc ++ [o], l, false) := by
  obtain ⟨κ, p, q, d⟩ := o
  obtain ⟨h1, ⟨_, h2⟩, ⟨_, h3⟩, ⟨_, h4⟩⟩ := h
  simp only at h1 h2 h3 h4
  have e : packB ⟨κ, p, q, d⟩ ++ l = le4 κ ++ (sizedL p ++ (sizedL q ++ (sizedL d ++ l))) := by simp [packB]
  unfold stepU
  simp only [e, numP_le4 κ 6 h1.1 h1.2 (by omega), bodP_sized p 40 (by omega) (by omega), bodP_sized q 40 (by omega) (by omega), bodP_sized d 3500 (by omega) (by omega)]
theorem RunU.head {s0 s : UState} (h : RunU s0 s) : s = s0 ∨ (0 < s0.2.1.length ∧ RunU (stepU s0) s) := by
  induction h with
  | start => exact .inl rfl
  | step h1 h2 ih =>
    rcases ih with rfl | ⟨h3, h4⟩
    · exact .inr ⟨h2, .start⟩
    · exact .inr ⟨h3, .step h4 h2⟩
theorem packB_pos (o : OpB) : 0 < (packB o).length := by simp [packB, le4]
theorem RunU.pack : ∀ (l : List OpB) (acc : List OpB) (s : UState), (∀ o ∈ l, OkB o) → RunU (acc, packsB l, false) s → s.2.1 = [] → s = (acc ++ l, [], false)
  | [], acc, s, _, h, _ => by
    rcases h.head with rfl | ⟨h1, _⟩
    · simp [packsB]
    · simp [packsB] at h1
  | o :: r, acc, s, hok, h, hs => by
    have e : packsB (o :: r) = packB o ++ packsB r := rfl
    rw [e] at h
    rcases h.head with rfl | ⟨_, h2⟩
    · have := packB_pos o
      simp only at hs
      rw [List.append_eq_nil_iff] at hs
      rw [hs.1] at this
      cases this
    · rw [stepU_pack acc o (hok o (List.mem_cons_self ..))] at h2
      have := RunU.pack r (acc ++ [o]) s (fun x hx => hok x (List.mem_cons_of_mem _ hx)) h2 hs
      rw [this]
      simp
/-- Operations in memory as those that are packed. -/
def toOpB (o : OpD × List Int) : OpB := ⟨o.1.kind, sb o.1.p, sb o.1.q, o.2⟩
theorem packsD_B (ops : List (OpD × List Int)) : packsD ops = packsB (ops.map toOpB) := by
  unfold packsD packsB
  rw [List.map_map]
  congr 1
  apply List.map_congr_left
  intro o _
  simp [packD, packB, toOpB, Function.comp]
/-- Operations that were packed, as Do takes them. -/
def toOpE (o : OpB) : OpE := ⟨o.κ, o.p.map fun z => UInt8.ofNat z.toNat, o.q.map fun z => UInt8.ofNat z.toNat, o.d⟩
section
variable {w0 w w' : World} {S S' S1 : Blocks} {R L L' L1 M : List Rw} {v c n d t : Nat} {T T' Tc T1 : Tr} {K : Blocks} {sv : Value} {zs : List Int} {E : Et} {B : Nat}
/-- Operations that were unpacked, as Do takes them. -/
theorem Ops.row {a : Option Addr} {cp : Nat} {os : List (OpD × OpB)} (hm : rowO (.slice a os.length cp) (os.map (·.1)) ∈ L) (ho : ∀ x ∈ os, OpOf L x.1 x.2) (hk : ∀ x ∈ os, OkB x.2) : Ops w0 S L a (os.map (·.1)) ((os.map (·.2)).map toOpE) := by
  refine ⟨by simp, fun w' S' L' k1 k2 k3 i hi => ?_, fun i hi => ?_⟩
  · have hrow := k1.only (k3 _ hm)
    have hpos : 0 < (os.map (·.1)).length := by omega
    obtain ⟨g, cp2, e, _⟩ := Own.form (h := (show Own ⟨w0, S'⟩ w' (⟨63, 4, .slice a os.length cp, (os.map (·.1)).length, ((os.map (·.1)).map OpD.cells).flatten⟩ :: []) from hrow)) hpos
    injection e with e1 e2 e3
    subst e1
    refine ⟨g, 0, rfl, fun j u hj => ?_⟩
    have hj4 : j < 4 := by
      have := (List.getElem?_eq_some_iff.1 hj).1
      exact this
    have hrow2 : Own ⟨w0, S'⟩ w' (⟨63, 4, .slice (some ⟨g, 0, none⟩) (os.map (·.1)).length cp, (os.map (·.1)).length, ((os.map (·.1)).map OpD.cells).flatten⟩ :: []) := by
      rw [show (Value.slice (some ⟨g, 0, none⟩) (os.map (·.1)).length cp) = .slice (some ⟨g, 0, none⟩) os.length cp by rw [List.length_map]]
      exact hrow
    have h6 := Own.cell (h := hrow2) (i * 4 + j) (by omega)
    rw [Nat.zero_add, h6, flatO _ i j hi hj4]
    exact hj
  · have hi' : i < os.length := by simpa using hi
    have hx := ho os[i] (List.getElem_mem _)
    have hok := hk os[i] (List.getElem_mem _)
    have e1 : (os.map (·.1))[i] = os[i].1 := by simp
    have e2 : ((os.map (·.2)).map toOpE)[i]'(by simpa using hi) = toOpE os[i].2 := by simp
    rw [e1, e2]
    refine ⟨hx.kind.symm, by rw [hx.p]; rfl, by rw [hx.q]; rfl, ?_, ?_, hx.n, .inl (show Pc L (.slice os[i].1.a os[i].1.n os[i].1.c) os[i].2.d from hx.data)⟩
    · rw [hx.p, Go.Proofs.YtlkgmhlaoahdlaaGreatDoor.strOfNums_size]; have := hok.p.2; unfold maxLen; omega
    · rw [hx.q, Go.Proofs.YtlkgmhlaoahdlaaGreatDoor.strOfNums_size]; have := hok.q.2; unfold maxLen; omega
def RedoAt (w0 : World) (S : Blocks) (L : List Rw) (t : Nat) (T : Tr) (w : World) (E1 : Et) (e : Ending) (w' : World) : Prop :=
  ∃ ids : List Int, ids.Perm (looseE E1.nodes) ∧ DoL w0 S L t T w (fun T' => Rep T' (reapE E1 ids)) (.bool true) e w'
set_option maxHeartbeats 8000000 in
theorem redo_any (hO : Own ⟨w0, S⟩ w L) (H : Tree S (Pc L) t T) (hR : Rep T E) (I : Inv E B) (hm : Mx w0) (bv : Value) (l : List OpB) (hb : Pc L bv (111 :: packsB l)) (hl0 : 0 < l.length) (hok : ∀ o ∈ l, OkB o) (hlen : (packsB l).length ≤ 100000) (hB : B + l.length ≤ 100000) (hE : (DoE E (l.map toOpE)).1 = 0) :
    Calls Tryz.prog 52 #[.pointer (some ⟨t, 0, none⟩), bv] w (RedoAt w0 S L t T w (DoE E (l.map toOpE)).2) := by
  have hby := hb.by hO
  obtain ⟨g, o, cp, rfl, _, _, _⟩ := hby.cells (by simp)
  have hO1 := hO.newB (litB 111)
  obtain ⟨w1, hw1⟩ : ∃ w1, w1 = w.alloc (litB 111) := ⟨_, rfl⟩
  rw [← hw1] at hO1
  have hlit : w1.heap[w.heap.size]? = some (litB 111) := hO1.at (List.mem_cons_self ..)
  have hby1 : By w1 (.slice (some ⟨g, o, none⟩) ((packsB l).length + 1) cp) (111 :: packsB l) := hb.by hO1
  have hcut := cut_yes w1 g o cp w.heap.size (packsB l) 111 hby1 hlit (by decide) (by decide)
  -- the first byte
  obtain ⟨z, r, hzr, hz45⟩ : ∃ z r, packsB l = z :: r ∧ z ≠ 45 := by
    cases l with
    | nil => simp at hl0
    | cons x l =>
      obtain ⟨h1, _⟩ := hok x (List.mem_cons_self ..)
      refine ⟨x.κ % 256, _, rfl, ?_⟩
      omega
  have hcs := conv_constL w #[.int .u8 111] 1 1
  have hxs : (l.map toOpE).length = l.length := by simp
  have hI1 : Inv (DoE E (l.map toOpE)).2 (B + (l.map toOpE).length) := DoE_inv I _
  have Hun := Lib.hid (fun v2 (h2 : By w1 v2 (packsB l)) => unpack_any (W0 := ⟨w0, (w.heap.size, litB 111) :: S⟩) (L := L) hO1 v2 (packsB l) h2 (by omega))
  have Htr := Lib.hid (fun v2 (h2 : By w1 v2 (packsB l)) => trim_still w1 v2 z r (by rw [← hzr]; exact h2) hz45)
  have H1 := Lib.hid (show Tree ((w.heap.size, litB 111) :: S) (Pc L) t T from H.mono (fun b x _ hx => List.mem_cons_of_mem _ hx) (fun _ _ hh => hh))
  have Hok := Lib.hid hok
  have HI := Lib.hid I
  have HI1 := Lib.hid hI1
  have HR := Lib.hid hR
  have HE := Lib.hid hE
  have Hlt := Lib.hid (show ∀ b x, (b, x) ∈ S → b < w.heap.size from fun b x hx => (hO.atLt hx).2)
  have HtF := Lib.hid (show ∀ b ∈ t :: T.foot, b < w.heap.size from fun b hb => by
    obtain ⟨x, hx⟩ := kept_in H.at_ b hb
    exact (hO.atLt hx).2)
  have hs1 : w1.heap.size = w.heap.size + 1 := by rw [hw1]; simp
  have hlit1 : (111 :: packsB l).length = (packsB l).length + 1 := rfl
  have hsz1 := Lib.hid hs1
  have Hw1 := Lib.hid hw1
  have Hxs := Lib.hid hxs
  rw [hw1] at hcut
  rw [hlit1]
  clear hO hO1 H hR I hb hby hby1 hlit hok hI1 hE hzr hz45 hs1 hw1 hlit1 hxs
  change Calls _ _ _ (w.alloc (.cells #[.int .u8 111] 5 (1, 2))) _ at hcut
  go_enter Tryz.func52, Tryz.ntmps52
  go_wp2_with fail
  refine hcut.mono ?_
  rintro e w2 ⟨v2, rfl, hw2, hby2⟩
  have hw3 : w2 = w1 := hw2.symm.trans Hw1.out.symm
  subst hw3
  have hby3 : By w2 v2 (packsB l) := by rw [Hw1.out]; exact hby2
  clear hw2 hcut hcs hby2
  have htr := Htr.out v2 hby3
  have hun := Hun.out v2 hby3
  clear hby3
  go_wp2_with fail
  refine htr.mono ?_
  rintro e w3 ⟨rfl, rfl⟩
  go_wp2_with fail
  refine hun.mono ?_
  rintro e w3 ⟨s, hrun, hs1, vo, os, L1, hO3, hos, hof, hol, ⟨a, c, rfl⟩, rfl⟩
  have hst := RunU.pack l [] s Hok.out hrun hs1
  subst hst
  have hos2 : os.map (·.2) = l := by rw [hos]; rfl
  simp only [if_true]
  have hop : Ops w0 ((w.heap.size, litB 111) :: S) (rowO (.slice a os.length c) (os.map (·.1)) :: (L1 ++ L)) a (os.map (·.1)) ((os.map (·.2)).map toOpE) := Ops.row (List.mem_cons_self ..) (fun x hx => (hof x hx).mono fun r hr => List.mem_cons_of_mem _ hr) (fun x hx => Hok.out _ (by rw [← hos2]; exact List.mem_map.2 ⟨x, hx, rfl⟩))
  rw [hos2] at hop
  have hll : (os.map (·.1)).length = l.length := by rw [← hos2]; simp
  have H3 : Tree ((w.heap.size, litB 111) :: S) (Pc (rowO (.slice a os.length c) (os.map (·.1)) :: (L1 ++ L))) t T := H1.out.mono (fun b x _ hx => hx) (fun _ _ hh => hh.mono fun x hx => List.mem_cons_of_mem _ (List.mem_append_right _ hx))
  have hdo := Do_any hO3 H3 HR.out HI.out hm a (os.map (·.1)) (l.map toOpE) c hop.len (by omega) hop.at_ hop.in_
  rw [HE.out, show (os.map (·.1)).length = os.length by simp] at hdo
  have hw13 : w.heap.size < w3.heap.size := (hO3.atLt (List.mem_cons_self ..)).2
  clear htr hun hrun hs1 hO3 hos hof hop H3 H1 HR HI Htr Hun
  go_wp2_with (go_at_call 31; refine hdo.mono ?_; rintro e w4 ⟨S4, L4, T4, rfl, hO4, hL4, hT4, hF4, hR4⟩; have H4 := Lib.hid (And.intro hO4 (And.intro hL4 (And.intro hT4 (And.intro hF4 hR4)))); clear hO4 hL4 hT4 hF4 hR4)
  obtain ⟨hO4, hL4, hT4, hF4, hR4⟩ := H4.out
  have hlenE := HI1.out.len
  have hlo := loose_t (hT4.at_.inWorld hO4) (by rw [hR4.count]; rw [Hxs.out] at hlenE; omega)
  clear hdo H4
  have hfr4 : Frame S S4 (t :: T.foot) (t :: T4.foot) w.heap.size := ⟨fun b x hb hn => hF4.kept b x (List.mem_cons_of_mem _ hb) hn, fun b hb => (hF4.fresh b hb).imp id (fun h => by omega)⟩
  have Hw4 := Lib.hid (Nat.le_of_lt (hO4.atLt (hF4.kept _ _ (List.mem_cons_self ..) (fun hm => absurd (HtF.out _ hm) (Nat.lt_irrefl _)))).2)
  have Hf4 := Lib.hid hfr4
  have HO4 := Lib.hid hO4
  have HT4 := Lib.hid hT4
  have HR4 := Lib.hid hR4
  have HL4 := Lib.hid (fun x (hx : x ∈ L) => hL4 x (List.mem_cons_of_mem _ (List.mem_append_right _ hx)))
  have hcnt := hR4.count
  clear hfr4 hO4 hT4 hR4 hL4 hF4
  go_wp2_with fail
  refine hlo.mono ?_
  rintro e w5 ⟨sv, zs, rfl, hp, hO5⟩
  obtain ⟨ids, hids⟩ : ∃ ids, ids = zs.mergeSort fun x y => decide (x ≤ y) := ⟨_, rfl⟩
  rw [← hids] at hO5
  have hperm : ids.Perm (looseE (DoE E (l.map toOpE)).2.nodes) := by
    rw [hids]
    refine (List.mergeSort_perm zs _).trans (hp.trans ?_)
    rw [looseL_er]
    unfold looseE
    exact (HR4.out.nodes.filter _).map _
  have hilen : ids.length ≤ 1000000 := by
    have h1 : ids.length = zs.length := by rw [hids]; exact List.length_mergeSort _
    have h2 := hp.length_eq
    have h3 := looseL_len T4.nodes
    rw [Hxs.out] at hlenE
    omega
  have hO6 : Own ⟨w0, S4⟩ w5 (⟨3, 1, sv, ids.length, ids.map (Value.int .i64)⟩ :: L4) := HO4.out.join hO5
  obtain ⟨a5, c5, hsv, _, _⟩ := Own.sized (h := hO6)
  subst hsv
  have hrp := reap_any hO6 (HT4.out.mono (D2 := Pc (⟨3, 1, .slice a5 ids.length c5, ids.length, ids.map (Value.int .i64)⟩ :: L4)) (fun b x _ hx => hx) (fun _ _ hh => hh.mono fun x hx => List.mem_cons_of_mem _ hx)) HR4.out HI1.out a5 ids c5 hilen (fun w' S' k1 k2 i hi => by
    obtain ⟨g5, cp5, e5, _⟩ := Own.form (h := k1) (by omega)
    injection e5 with e6 e7 e8
    subst e6
    refine ⟨g5, 0, rfl, ?_⟩
    rw [Nat.zero_add, Own.cell (h := k1) i (by omega), List.getElem?_map, List.getElem?_eq_getElem hi]; rfl)
  have hw45 := hO5.below.size
  have Hp := Lib.hid hperm
  have Hw45 := Lib.hid (Nat.le_trans Hw4.out hw45)
  clear hO5 hO6 hlo hp hperm hids hcnt hlenE hw45 hilen
  go_wp2_with fail
  refine hrp.mono ?_
  rintro e w6 ⟨S6, L6, T6, rfl, hO7, hL7, hT7, hF7, hR7⟩
  have HP := Lib.hid (show RedoAt w0 S L t T w (DoE E (l.map toOpE)).2 (.returned (.bool true)) w6 from ⟨ids, Hp.out, S6, L6, T6, rfl, hO7, fun x hx => hL7 x (List.mem_cons_of_mem _ (HL4.out x hx)), hT7, Hf4.out.trans hF7 Hw45.out Hlt.out, hR7⟩)
  clear hrp hO7 hL7 hT7 hF7 hR7
  go_wp2_with fail
  go_ret
  exact HP.out
end
end Go.Proofs.YtlkgmhlaoahdlaaGreatDoor
end
