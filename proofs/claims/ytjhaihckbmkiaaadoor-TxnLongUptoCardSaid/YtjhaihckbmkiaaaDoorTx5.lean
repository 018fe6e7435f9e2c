/- Moves are taken off bytes: a step of the loop. -/
import Derived.Test.YtjhaihckbmkiaaaDoorTx4
namespace Go.Proofs.YtjhaihckbmkiaaaDoor
open Go.RowKit
set_option linter.unusedVariables false
set_option linter.unusedSimpArgs false
set_option maxRecDepth 100000

/-! append of moves, as a rule for a region that draws its order. -/
def okAppM (w : World) (ty : TypeId) (x y : Value) : Prop := ∃ v w', (Builtin.append_ #[24, 24] ty #[x, y]).run Tryd.prog w = .ok v w'
noncomputable def appVM (w : World) (ty : TypeId) (x y : Value) : Value := match (Builtin.append_ #[24, 24] ty #[x, y]).run Tryd.prog w with
  | .ok v _ => v
  | _ => undef
noncomputable def appWM (w : World) (ty : TypeId) (x y : Value) : World := match (Builtin.append_ #[24, 24] ty #[x, y]).run Tryd.prog w with
  | .ok _ w' => w'
  | _ => w
theorem wp_appM {dd : Option Tmp} {x y : Operand} {ty : TypeId} {ps : String} {af : Array Edge} {gd : Option (Nat × Bool)} {a : Act} {w : World} {K : Act → World → Prop} {Q : Exit → Act → World → Prop} (h : okAppM w ty (a.eval x) (a.eval y)) :
    Oper.wp Tryd.prog ⟨dd, .call { callee := .builtin .append, args := #[x, y], argTypes := #[24, 24] }, ty, ps, af, gd⟩ a w K Q = K (a.put dd (appVM w ty (a.eval x) (a.eval y))) (appWM w ty (a.eval x) (a.eval y)) := by
  obtain ⟨v, w', hr⟩ := h
  unfold Oper.wp appVM appWM
  simp [execOp, resolve, invoke, builtin, hr, Result.andThen]
  exact Iff.rfl
theorem src_two (w : World) (a b : Value) (T : TypeId) (ha : a.oneCell' = true) (hb : b.oneCell' = true) : Src (w.alloc (.cells #[a, b] T)) (.slice (some ⟨w.heap.size, 0, none⟩) 1 1) 1 [a, b] := by
  refine .inr ⟨_, _, rfl, fun j u hj => ?_, fun u hu => ?_⟩
  · rw [Addr.add_mid, Nat.zero_add, World.cell?_alloc_new]
    have e : (#[a, b] : Array Value)[j]? = ([a, b] : List Value)[j]? := by rw [← Array.getElem?_toList]
    rw [e]; exact hj
  · simp only [List.mem_cons, List.not_mem_nil, or_false] at hu
    rcases hu with rfl | rfl <;> assumption
theorem info_mvE : (Tryd.prog.info? 36).map (fun i => (i.zero, i.size, i.bytes)) = some (some (.agg #[.int .i64 0, .string ⟨#[]⟩]), 2, 24) := by kernel_rfl
abbrev rowMv (v : Value) (ns : List MvD) : Rw := rowE 36 2 MvD.cells v ns
theorem mv_step {W0 : Base} {w5 : World} {X : List Rw} {r2 H2 : Nat} {a b c d v : Value} {ns : List MvD} {zs : List Int} {bad : Bool} (h5 : Rd W0 w5 (rowT5 H2 [a, b, v, c, d] :: rowMv v ns :: X) r2 zs bad) (n : Int) (s : ByteArray) (hb1 : ns.length ≤ 1000000) :
    ∃ v6 w6 a6 c6, (Builtin.append_ #[24, 24] 24 #[v, .slice (some ⟨w5.heap.size, 0, none⟩) 1 1]).run Tryd.prog (w5.alloc (.cells #[.int .i64 n, .string s] 36)) = .ok v6 w6 ∧ v6 = .slice a6 (ns.length + 1) c6 ∧ w6.cell? ⟨H2, 2, none⟩ = some v ∧ w6.frozen? ⟨H2, 2, none⟩ = false ∧ H2 < w5.heap.size ∧
      Rd W0 (w6.setCell ⟨H2, 2, none⟩ v6) (rowT5 H2 [a, b, v6, c, d] :: rowMv v6 (ns ++ [⟨n, s⟩]) :: X) r2 zs bad := by
  have hT : (36 : TypeId) ≠ 5 := by decide
  have hT5 : (27 : TypeId) ≠ 5 := by decide
  obtain ⟨inf, hi0, hi1, hi2, hi3⟩ := info3 info_mvE
  obtain ⟨vr, h5a, hp5⟩ := h5
  have hlt := World.block_lt_of_cell? w5 _ (t5_cells h5a (H := H2) (a := a) (b := b) (c := v) (d := c) (e := d) (by simp)).1.1
  have h6 : Own W0 w5 (rowMv v ns :: ([rowR r2 vr bad, rowT5 H2 [a, b, v, c, d]] ++ X)) := h5a.perm (List.perm_middle (l₁ := [rowR r2 vr bad, rowT5 H2 [a, b, v, c, d]]))
  obtain ⟨v6, w6, hr6, hO6⟩ := run_append_src (P := Tryd.prog) (t := 24) (ty := 24) (e := 36) (size := 2) (h6.alloc (.cells #[.int .i64 n, .string s] 36)) inf (.agg #[.int .i64 0, .string ⟨#[]⟩]) 24 Tryd.underlying24 hi0 hi1 hi2 hi3 rfl (by decide) (.slice (some ⟨w5.heap.size, 0, none⟩) 1 1) 1 (src_two w5 (.int .i64 n) (.string s) 36 rfl rfl) rfl (by unfold maxLen; omega) (by omega)
  obtain ⟨a6, c6, hv6, _, _⟩ := Own.sized (h := hO6)
  obtain ⟨⟨_, _, z2, _, _⟩, ⟨_, _, f2, _, _⟩, _⟩ := t5_cells hO6 (H := H2) (a := a) (b := b) (c := v) (d := c) (e := d) (by simp)
  refine ⟨v6, w6, a6, c6, hr6, hv6, z2, f2, hlt, ?_⟩
  have e6 : (⟨36, 2, v6, ns.length + 1, (ns.map MvD.cells).flatten ++ [.int .i64 n, .string s]⟩ : Rw) = rowMv v6 (ns ++ [⟨n, s⟩]) := by
    unfold rowMv rowE
    simp [MvD.cells]
  have hO6' : Own W0 w6 ([rowMv v6 (ns ++ [⟨n, s⟩]), rowR r2 vr bad] ++ rowT5 H2 [a, b, v, c, d] :: X) := by rw [← e6]; exact hO6
  have h7 := hO6'.perm List.perm_middle
  have h8 := Own.set (h := (show Own W0 w6 (⟨27, 5, .slice (some ⟨H2, 0, none⟩) 1 1, 1, [a, b, v, c, d]⟩ :: ([rowMv v6 (ns ++ [⟨n, s⟩]), rowR r2 vr bad] ++ X)) from h7)) 2 v6
  refine ⟨vr, (show Own W0 (w6.setCell ⟨H2, 2, none⟩ v6) ([rowT5 H2 [a, b, v6, c, d], rowMv v6 (ns ++ [⟨n, s⟩])] ++ rowR r2 vr bad :: X) from h8).perm List.perm_middle, hp5.keep fun q hq he => ?_⟩
  simp only [List.mem_cons] at hq
  rcases hq with rfl | rfl | hq
  · exact absurd he hT5
  · exact absurd he hT
  · exact List.mem_cons_of_mem _ (List.mem_cons_of_mem _ hq)
/-- How far the moves have been taken. -/
def MvRel (W0 : Base) (X : List Rw) (r2 H2 : Nat) (a b c d : Value) (zs0 : List Int) (bad0 : Bool) (wr : World) : Prop :=
  ∃ (v : Value) (ns : List MvD) (zs : List Int) (bad : Bool) (m : Nat), Rd W0 wr (rowT5 H2 [a, b, v, c, d] :: rowMv v ns :: X) r2 zs bad ∧ runT mvT zs0.length zs0 bad0 = ns ++ runT mvT m zs bad ∧ zs.length ≤ m ∧ ns.length + zs.length ≤ zs0.length
theorem MvRel.step {W0 : Base} {X : List Rw} {r2 H2 : Nat} {a b c d v6 : Value} {zs0 zs zs' : List Int} {bad0 bad bad' : Bool} {ns : List MvD} {x : MvD} {m : Nat} {w7 wr : World} (h : Rd W0 w7 (rowT5 H2 [a, b, v6, c, d] :: rowMv v6 (ns ++ [x]) :: X) r2 zs' bad') (hrun : runT mvT zs0.length zs0 bad0 = ns ++ runT mvT m zs bad) (hm : zs.length ≤ m) (hns : ns.length + zs.length ≤ zs0.length) (h0 : 0 < zs.length) (hx : mvT zs bad = (x, zs', bad')) (hl : leftA wr r2 = zs.length) :
    MvRel W0 X r2 H2 a b c d zs0 bad0 w7 ∧ leftA w7 r2 < leftA wr r2 := by
  have hlt := mvT_len zs bad h0
  obtain ⟨m2, hrs, hm2⟩ := runT_step mvT m zs bad h0 hm hlt
  rw [hx] at hrs hm2 hlt
  dsimp only at hrs hm2 hlt
  refine ⟨⟨v6, ns ++ [x], zs', bad', m2, h, by rw [hrun, hrs]; simp, hm2, by simp; omega⟩, ?_⟩
  rw [h.left, hl]
  exact hlt
end Go.Proofs.YtjhaihckbmkiaaaDoor
