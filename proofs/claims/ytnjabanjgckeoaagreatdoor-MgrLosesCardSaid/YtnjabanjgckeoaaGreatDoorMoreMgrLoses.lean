/- Texts one behind the other, each in a section of its own: what calls make of memory, step by step. -/
import Derived.Test.YtnjabanjgckeoaaGreatDoorPackMgrRetries19
import Derived.Test.YtnjabanjgckeoaaGreatDoorRows
import Derived.Deep.Slices
import Derived.Deep.Strs
import Derived.Lib.SmallJoins
import Derived.WideShapes
import Derived.ProofKit
import Derived.OpenShut
import Derived.MakeChecks
import Derived.Laws.BitsLemmas

section
namespace Go.Proofs.YtnjabanjgckeoaaGreatDoor
open Go.RowKit
open Go.ChangeMaps (setBlock)
open Go.MapKept (run_setObj_map)
set_option linter.unusedVariables false
set_option linter.unusedSimpArgs false
set_option maxRecDepth 100000

section
variable {P : Program} {α : Type} {w : World} {b : Nat} {o : Obj} {mt kt et : TypeId} {K : α → Value} {m : List (α × Value)}
theorem MapO.clear (hm : P.underlying mt = some (.map kt et)) (h : MapO K o m) (hb : w.heap[b]? = some o) (ty : TypeId) :
    ∃ o', (Builtin.clear_ #[mt] ty #[.map (some b)]).run P w = .ok (.tuple #[]) (setBlock w b o') ∧ MapO K o' [] := by
  obtain ⟨es, clock, rfl, h1, h2, h3⟩ := h
  refine ⟨.map #[] clock, ?_, #[], clock, rfl, rfl, List.nodup_nil, fun e he => by simp at he⟩
  unfold Builtin.clear_
  simp [Sem.run_bind, run_underlying hm, MapKept.run_getObj_map hb, run_setObj_map _ hb, Result.andThen, setBlock, Sem.run]
end
section
variable {w0 w w' : World} {S S' S1 : Blocks} {R L L' L1 M L0 : List Rw} {v c n d : Nat} {X X' X1 X2 : VX} {T T' Tc T1 : Tr} {Y Y' : Tab} {K K' : Blocks} {fv : Value} {acc : List Int}
theorem VT.clears (h : VT w0 K L0 v X Y w) (ty : TypeId) : ∃ o', (Builtin.clear_ #[109] ty #[.map (some Y.mb)]).run Tryz.prog w = .ok (.tuple #[]) (setBlock w Y.mb o') ∧ VT w0 K L0 v X { Y with runs := [] } (setBlock w Y.mb o') := by
  obtain ⟨S, R, L, T, h1, h2, h3, h4, h5⟩ := h
  obtain ⟨o, m1, m2⟩ := h2.map
  obtain ⟨o', hcl, m3⟩ := m2.clear Tryz.underlying109 (h1.own.at m1) ty
  have hO := h1.own.setB m1 o'
  have hn1 := List.nodup_cons.1 h2.apart
  have hfs : ({ Y with runs := [] } : Tab).foot.Sublist Y.foot := ((List.nil_sublist _).cons_cons _).cons_cons _
  have hk : ∀ b x, (b, x) ∈ S → b ≠ Y.mb → (b, x) ∈ upd S Y.mb o' := fun b x hb hne => upd_other hb hne _
  exact ⟨o', hcl, VT.turn h1 h3 h4 h5 hO (fun b x hb hne => hk b x hb fun e => hne (e ▸ List.mem_cons_of_mem _ (List.mem_cons_self ..))) ⟨hk _ _ h2.cells fun e => hn1.1 (e ▸ List.mem_cons_self ..), ⟨o', upd_same m1 _, m3⟩, (fun q hq => by cases hq), h2.apart.sublist hfs⟩ fun b hb => .inl (hfs.subset hb)⟩
end
end Go.Proofs.YtnjabanjgckeoaaGreatDoor
end

section
namespace Go.Proofs.YtnjabanjgckeoaaGreatDoor
open Go.RowKit
open Go.ChangeMaps (setBlock)
set_option linter.unusedVariables false
set_option linter.unusedSimpArgs false
set_option maxRecDepth 100000

theorem GAt.names {w : World} {g : Nat} {us : List GU} {ord : List Nm} (h : GAt w g us ord) :
    Calls Tryz.prog 42 #[.pointer (some ⟨g, 0, none⟩)] w fun e w' => ∃ v, e = .returned v ∧ Own w w' [rowSs v (sortN (namesU us))] := by
  obtain ⟨bu, xs, h1⟩ := h.uni
  exact names_any h1 h.once h.few h.short
end Go.Proofs.YtnjabanjgckeoaaGreatDoor
end

section
namespace Go.Proofs.YtnjabanjgckeoaaGreatDoor
open Go.RowKit
open Go.ChangeMaps (setBlock)
set_option linter.unusedVariables false
set_option linter.unusedSimpArgs false
set_option maxRecDepth 100000

theorem UArg.later {w w' : World} {v : Value} {us : List GU} (h : UArg w v us) (hb : Below w.heap.size w w') : UArg w' v us := by
  obtain ⟨a, c, xs, e, hu, hr⟩ := h
  refine ⟨a, c, xs, e, hu.later hb, fun i hi => ?_⟩
  obtain ⟨⟨b, o, e1, h1⟩, h9⟩ := hr i hi
  exact ⟨⟨b, o, e1, fun j u hj => by
    have h2 := h1 j u hj
    exact (hb.cell (p := ⟨b, o + i * 8 + j, none⟩) (World.block_lt_of_cell? w ⟨b, o + i * 8 + j, none⟩ h2)).trans h2⟩, h9⟩
end Go.Proofs.YtnjabanjgckeoaaGreatDoor
end

section
namespace Go.Proofs.YtnjabanjgckeoaaGreatDoor
open Go.RowKit
open Go.ChangeMaps (setBlock)
set_option linter.unusedVariables false
set_option linter.unusedSimpArgs false
set_option maxRecDepth 100000

section
variable {w0 w w' : World} {K K' : Blocks} {S' : Blocks} {L0 L1 N : List Rw} {v : Nat} {X : VX} {Y : Tab} {M : MS}
theorem MgIn.clear (h : MgIn w0 K L0 v X Y M w) (ty : TypeId) : ∃ o', (Builtin.clear_ #[87] ty #[.map (some M.rb)]).run Tryz.prog w = .ok (.tuple #[]) (setBlock w M.rb o') ∧ MgIn w0 K L0 v X Y { M with runs := [] } (setBlock w M.rb o') := by
  obtain ⟨o, h1, h2⟩ := h.x
  obtain ⟨o', e1, e2⟩ := h2.clear (P := Tryz.prog) und_runs (h1.cellK (List.mem_cons_of_mem _ (List.mem_cons_self ..))) ty
  exact ⟨o', e1, h.turnMap o' e2 fun p hp => nomatch hp⟩
end

section
variable {w0 w w' : World} {v mb tb gb N : Nat} {us : List GU} {ord : List Nm} {V : MV}
end
end Go.Proofs.YtnjabanjgckeoaaGreatDoor
end

/- Lose: all that ran is forgotten, with another volume. -/
section
namespace Go.Proofs.YtnjabanjgckeoaaGreatDoor
open Go.RowKit
open Go.ChangeMaps (setBlock)
set_option linter.unusedVariables false
set_option linter.unusedSimpArgs false
set_option maxRecDepth 100000

section
variable {w0 we w w' : World} {K K2 : Blocks} {L0 L2 rs2 : List Rw} {v v2 : Nat} {X X2 : VX} {Y Y2 : Tab}
set_option maxHeartbeats 2000000 in
/-- Reset with a volume that was made since. -/
theorem reset_other (h : VT w0 K L0 v X Y we) (h2 : VTX we K2 L2 v2 X2 Y2 rs2 w) : Calls Tryz.prog 77 #[.pointer (some ⟨Y.tb, 0, none⟩), filesV v2] w fun e w' => e = .returned (.tuple #[]) ∧ VT w0 K L0 v2 X2 { Y with runs := [] } w' := by
  obtain ⟨S, R, L, T, h1, t2, t3, t4, t5⟩ := h
  obtain ⟨S2, R2, L3, T2, g0, g1, g2, g3, g4, g5⟩ := h2
  have hj := h1.own.joinS g0
  have hO : Own ⟨w0, S2 ++ S⟩ w (R2 ++ (L3 ++ L)) := hj.of_mem (by
    rw [← List.append_assoc]
    exact List.Sublist.append (List.sublist_append_right _ _) (List.sublist_append_right _ _))
  have hS : ∀ b x, (b, x) ∈ S → (b, x) ∈ S2 ++ S := fun b x hx => List.mem_append_right _ hx
  have hV : VolIn w0 (S2 ++ S) R2 (L3 ++ L) v2 X2 T2 w := by
    refine ⟨hO, g1.log, g1.tree.mono (fun b x _ hx => List.mem_append_left _ hx) (fun _ _ hh => hh.mono fun x hx => List.mem_append_left _ hx), g1.rep, g1.inv, List.mem_append_left _ g1.cells, ?_, g1.off, g1.live, g1.left⟩
    obtain ⟨o, m1, m2⟩ := g1.map
    exact ⟨o, List.mem_append_left _ m1, m2⟩
  have hlt : ∀ b ∈ Y.foot, b < we.heap.size := t2.lt h1.ownL
  have hoff : ∀ b, b < we.heap.size → b ∉ v2 :: X2.hm :: X2.t :: T2.foot := fun b hb hm => by have := (g1.lt hm).1; omega
  have h3 : ∀ b ∈ Y.foot, b ∉ v2 :: X2.hm :: X2.t :: T2.foot := fun b hb => hoff b (hlt b hb)
  have h5 : ∀ b x, (b, x) ∈ K → (b, x) ∈ S2 ++ S ∧ b ∉ v2 :: X2.hm :: X2.t :: T2.foot ∧ b ∉ Y.foot := fun b x hb => by
    obtain ⟨q1, q2, q3⟩ := t5 b x hb
    exact ⟨hS b x q1, hoff b (h1.own.atLt q1).2, q3⟩
  have hcells := hS _ _ t2.cells
  have hst := hO.storeB hcells 0 (filesV v2)
  have hst' : Own ⟨w0, upd (S2 ++ S) Y.tb (.cells (tabCells v2 Y) 111)⟩ (w.setCell ⟨Y.tb, 0, none⟩ (filesV v2)) (R2 ++ (L3 ++ L)) := hst
  have hn := List.nodup_cons.1 t2.apart
  have hk : ∀ b x, (b, x) ∈ S2 ++ S → b ≠ Y.tb → (b, x) ∈ upd (S2 ++ S) Y.tb (.cells (tabCells v2 Y) 111) := fun b x hb hne => upd_other hb hne _
  obtain ⟨o, m1, m2⟩ := t2.map
  have hVT : VT w0 K L0 v2 X2 Y (w.setCell ⟨Y.tb, 0, none⟩ (filesV v2)) := by
    refine VT.turn hV h3 (fun x hx => List.mem_append_right _ (t4 x hx)) h5 hst' (fun b x hb hne => hk b x hb fun e => hne (e ▸ List.mem_cons_self ..)) ⟨upd_same hcells _, ⟨o, hk _ _ (hS _ _ m1) fun e => hn.1 (e ▸ List.mem_cons_self ..), m2⟩, fun p hp => ?_, t2.apart⟩ fun b hb => .inl hb
    obtain ⟨r1, r2⟩ := t2.run p hp
    exact ⟨hk _ _ (hS _ _ r1) fun e => hn.1 (e ▸ List.mem_cons_of_mem _ (List.mem_map.2 ⟨p, hp, rfl⟩)), r2.imp id fun x => List.mem_append_right _ x⟩
  have t0 : w.cell? ⟨Y.tb, 0, none⟩ = some (filesV v) := by rw [hO.cellB hcells 0]; rfl
  have f0 : w.frozen? ⟨Y.tb, 0, none⟩ = false := free_at (hO.at hcells) 0
  obtain ⟨_, _, d2⟩ := hVT.tab
  obtain ⟨o', hcl0, h9⟩ := hVT.clears 0
  have hcl : ∀ ty, (Builtin.clear_ #[109] ty #[.map (some Y.mb)]).run Tryz.prog (w.setCell ⟨Y.tb, 0, none⟩ (filesV v2)) = .ok (.tuple #[]) (setBlock (w.setCell ⟨Y.tb, 0, none⟩ (filesV v2)) Y.mb o') := fun ty => hcl0
  have HP := Lib.hid h9
  unfold filesV at *
  clear h1 t2 t3 t4 t5 g0 g1 g2 g3 g4 g5 hj hO hS hV hlt hoff h3 h5 hcells hst hst' hn hk m1 m2 hVT hcl0 h9
  go_enter Tryz.func77, Tryz.ntmps77
  go_wp2_with fail
  go_end0
  exact ⟨rfl, HP.out⟩
theorem VTX.reset {e size n : Nat} {vv : Value} {xs : List Value} (h : VTX w0 K L0 v X Y [⟨e, size, vv, n, xs⟩] we) (h2 : VTX we K2 L2 v2 X2 Y2 rs2 w) : Calls Tryz.prog 77 #[.pointer (some ⟨Y.tb, 0, none⟩), filesV v2] w fun e' w' => e' = .returned (.tuple #[]) ∧ VTX w0 K L0 v2 X2 { Y with runs := [] } [⟨e, size, vv, n, xs⟩] w' := by
  have hl := h.lenT
  rcases VTX.freeze (show VTX w0 K L0 v X Y (⟨e, size, vv, n, xs⟩ :: []) we from h) with ⟨e1, e2, e3, h3⟩ | ⟨g, cap, cur, e1, k1, k2, k3, k4, _, h3, hne⟩
  · refine (reset_other h3.vt h2).mono fun r w' hh => ?_
    subst e1 e2 e3
    exact ⟨hh.1, hh.2.vtx.nilrow _ _⟩
  · refine (reset_other h3.vt h2).mono fun r w' hh => ?_
    subst e1
    exact ⟨hh.1, hh.2.vtx.thaw hne k1 k2 k3 k4 hl⟩
theorem MgIn.reset {M M2 : MS} (h : MgIn w0 K L0 v X Y M we) (h2 : MgIn we K2 L2 v2 X2 Y2 M2 w) : Calls Tryz.prog 77 #[.pointer (some ⟨Y.tb, 0, none⟩), filesV v2] w fun e w' => e = .returned (.tuple #[]) ∧ MgIn w0 K L0 v2 X2 { Y with runs := [] } M w' := by
  obtain ⟨o, h3, h4⟩ := h.x
  obtain ⟨o2, h5, _⟩ := h2.x
  refine (VTX.reset (show VTX w0 _ L0 v X Y [⟨92, 2, M.ev, M.evs.length, evC M.evs⟩] we from h3) h5).mono fun e w' hh => ?_
  exact ⟨hh.1, ⟨o, hh.2, h4⟩, h.ne, h.off, h.has⟩
end
set_option maxHeartbeats 2000000 in
theorem lose_at {w0 we w : World} {v mb tb gb v2 mb2 tb2 gb2 N N2 : Nat} {us us2 : List GU} {ord ord2 : List Nm} {V V2 : MV} (h : MgAt w0 v mb tb gb us ord N V we) (h2 : MgAt we v2 mb2 tb2 gb2 us2 ord2 N2 V2 w) (hN : N2 ≤ N) :
    Calls Tryz.prog 41 #[.pointer (some ⟨mb, 0, none⟩), filesV v2] w fun e w' => e = .returned (.tuple #[]) ∧ MgAt w0 v2 mb tb gb us ord N ⟨V2.E, V2.held, V.last, [], [], []⟩ w' := by
  obtain ⟨K, L0, X, Y, M, h, rfl, rfl, rfl, rfl, hg, hG⟩ := h
  obtain ⟨K2, L2, X2, Y2, M2, h2, rfl, rfl, rfl, rfl, hg2, hG2⟩ := h2
  have hb := h2.below
  obtain ⟨⟨c0, c1, c2, c3⟩, hf⟩ := (h.later hb).cells
  have hrs := h.reset h2
  have hGd : Gd N ⟨X2.E, X2.held, Y.last, [], [], []⟩ := ⟨(hG2.held.mono (by omega)).like ⟨rfl, rfl⟩, List.nodup_nil, hG.last, (fun p hp => nomatch hp), Nat.zero_le _, Nat.zero_le _, (fun p hp => nomatch hp), List.nodup_nil, Nat.zero_le _, (fun p hp => nomatch hp)⟩
  have HB := Lib.hid (fun (W : World) (hW : MgIn w0 K L0 v2 X2 { Y with runs := [] } M W) => (show ∃ o', (Builtin.clear_ #[87] 0 #[.map (some M.rb)]).run Tryz.prog W = .ok (.tuple #[]) (setBlock W M.rb o') ∧ W.cell? ⟨M.m, 2, none⟩ = some (.map (some M.rb)) ∧ (setBlock W M.rb o').cell? ⟨M.m, 3, none⟩ = some M.ev ∧ (setBlock W M.rb o').frozen? ⟨M.m, 3, none⟩ = false ∧ MgAt w0 v2 M.m Y.tb M.g us ord N ⟨X2.E, X2.held, Y.last, [], [], []⟩ ((setBlock W M.rb o').setCell ⟨M.m, 3, none⟩ (.slice none 0 0)) from by
    obtain ⟨o', k1, k2⟩ := hW.clear 0
    obtain ⟨S3, N3, q1, q2⟩ := k2.grow
    have q3 := (q2 _ (.slice none 0 0) [] (Own.nil q1.tail 92 2)).2
    exact ⟨o', k1, hW.cells.1.2.2.1, k2.cells.1.2.2.2, k2.cells.2 3, K, L0, X2, { Y with runs := [] }, _, q3, rfl, rfl, rfl, rfl, hg, hGd⟩))
  obtain ⟨ea, ec, hev⟩ := h.evForm
  rw [hev] at HB
  unfold filesV at hrs ⊢
  clear h h2 hb hg hg2 hG hG2 hGd c1 c2 c3 hf hev
  generalize M.evs.length = el at *
  go_enter Tryz.func41, Tryz.ntmps41
  go_wp2_with fail
  refine hrs.mono ?_
  rintro e w3 ⟨rfl, h3⟩
  obtain ⟨o', k1, k2, k3, k4, k5⟩ := HB.out w3 h3
  have K5 := Lib.hid k5
  have k1' : ∀ ty, (Builtin.clear_ #[87] ty #[.map (some M.rb)]).run Tryz.prog w3 = .ok (.tuple #[]) (setBlock w3 M.rb o') := fun ty => k1
  clear hrs h3 k1 k5 c0
  go_wp2_with fail
  go_end0
  exact ⟨rfl, K5.out⟩
end Go.Proofs.YtnjabanjgckeoaaGreatDoor
end

/- Small. -/
section
namespace Go.Proofs.YtnjabanjgckeoaaGreatDoor
open Go.RowKit
open Go.ChangeMaps (setBlock)
set_option linter.unusedVariables false
set_option linter.unusedSimpArgs false
set_option maxRecDepth 100000

def okL (l : List Nm) : Prop := l.length ≤ 10 ∧ ∀ s ∈ l, s.length ≤ 60
def SmallU (us : List GU) : Prop := us.length ≤ 20 ∧ ∀ u ∈ us, ∀ l ∈ u.lists ++ [[u.name]], okL l
def SmallPost (w : World) (us : List GU) (e : Ending) (w' : World) : Prop := Below w.heap.size w w' ∧ (e = .returned (.int .i64 0) ∨ e = .returned (.int .i64 1) ∧ SmallU us)
theorem SmallU.names {us : List GU} (h : SmallU us) : ∀ n ∈ namesU us, n.length ≤ 60 := fun n hn => by
  obtain ⟨u, hu, rfl⟩ := mem_names.1 hn
  exact (h.2 u hu [u.name] (by simp)).2 _ (List.mem_singleton.2 rfl)
theorem SmallU.bnd {us : List GU} (h : SmallU us) : ∀ u ∈ us, Bnd u := fun u hu => by
  have k := fun l (hl : l ∈ u.lists) => (h.2 u hu l (List.mem_append_left _ hl)).1
  refine bnd_small ⟨?_, ?_, ?_, ?_, ?_, ?_⟩
  · have := k u.fi (by simp [GU.lists]); omega
  · have := k u.af (by simp [GU.lists]); omega
  · have := k u.be (by simp [GU.lists]); omega
  · have := k u.re (by simp [GU.lists]); omega
  · have := k u.wa (by simp [GU.lists]); omega
  · have := k u.pa (by simp [GU.lists]); omega
set_option maxHeartbeats 8000000 in
theorem small_any {w : World} {v : Value} {us : List GU} (h : UArg w v us) (hlen : us.length ≤ maxLen) :
    Calls Tryz.prog 18 #[v] w (SmallPost w us) := by
  obtain ⟨a, c, xs, rfl, hU, hr⟩ := h
  have hn : (us.length : Int) ≤ 9223372036854775807 := by unfold maxLen at hlen; omega
  by_cases hmany : 20 < us.length
  · have hmi : (20 : Int) < (us.length : Int) := by omega
    clear hU hr hlen hmany
    go_enter Tryz.func18, Tryz.ntmps18
    go_wp2_with fail
    go_ret
    exact ⟨Below.refl _ _, .inl rfl⟩
  have hfi : (us.length : Int) ≤ 20 := by omega
  have HF := Lib.hid (show us.length ≤ 20 by omega)
  have HU := Lib.hid hU
  have HR := Lib.hid hr
  clear hU hr hlen hmany
  go_enter Tryz.func18, Tryz.ntmps18
  go_wp2_with fail
  go_loopw [14] (fun s wr => ∃ k : Nat, k ≤ us.length ∧ s = .int .i64 k ∧ Below w.heap.size w wr ∧ Hid (∀ u ∈ us.take k, ∀ l ∈ u.lists ++ [[u.name]], okL l)) (fun s _ => us.length - (intOf s).toNat)
  case atStart => exact ⟨0, Nat.zero_le _, rfl, Below.refl _ _, fun u hu => by cases hu⟩
  case round =>
    obtain ⟨k, hk, rfl, hbw, HA⟩ := hrel
    by_cases hlt : k < us.length
    · have hkx : k < xs.length := by rw [HU.out.len]; exact hlt
      obtain ⟨⟨b, o, rfl, hrg⟩, _⟩ := HR.out k hkx
      have hUk := (HU.out.at k hkx hlt).later hbw
      have hrg2 : wr.rangeAt b (o + k * 8) xs[k].cells := fun j u hj => by
        have h2 := hrg j u hj
        exact (hbw.cell (p := ⟨b, o + k * 8 + j, none⟩) (World.block_lt_of_cell? w ⟨b, o + k * 8 + j, none⟩ h2)).trans h2
      have HUk := Lib.hid hUk
      have Hone := Lib.hid hUk.one
      have hcsp : (Tryz.prog.info? 64).map (·.size) = some xs[k].cells.length := info_uv
      have h8 := Lib.hid (show (8 : Nat) = xs[k].cells.length from rfl)
      have D := Lib.hid (show xs[k].cells = [.string (toB xs[k].name), xs[k].v1, xs[k].v2, xs[k].v3, xs[k].v4, xs[k].v5, xs[k].v6, .int .i64 xs[k].ret] from rfl)
      have HBW := Lib.hid hbw
      have hklt : (k : Int) < (us.length : Int) := by omega
      have HT := Lib.hid (show us.take (k + 1) = us.take k ++ [us[k]] from List.take_succ_eq_append_getElem hlt)
      clear hrg hUk hbw
      generalize xs[k] = X at *
      generalize X.cells = pcs at *
      go_upto_region 6 with (first
        | (refine wpList_load_mid rfl 64 (.tmp 16) rfl b (o + k * 8) rfl pcs _ hrg2 Tryz.underlying64 rfl hcsp ?_)
        | (refine wpList_store_new rfl 64 (.tmp 4) (.tmp 17) rfl (Own.start wr) pcs wr.heap.size rfl rfl rfl h8.out hcsp Hone.out ?_))
      intro w3 hO3 _
      have q : ∀ j, j < 8 → w3.cell? ⟨wr.heap.size, j, none⟩ = pcs[j]? := fun j hj => hO3.cell j (by rw [← h8.out]; omega)
      have d0 := q 0 (by decide)
      have d1 := q 1 (by decide)
      have d2 := q 2 (by decide)
      have d3 := q 3 (by decide)
      have d4 := q 4 (by decide)
      have d5 := q 5 (by decide)
      have d6 := q 6 (by decide)
      rw [D.out] at d0 d1 d2 d3 d4 d5 d6
      simp only [List.getElem?_cons_zero, List.getElem?_cons_succ] at d0 d1 d2 d3 d4 d5 d6
      have O4 := hO3.made_at 9 1 #[.string (toB X.name)] 1 w3.heap.size rfl rfl (by unfold maxLen; decide)
      have O5 := O4.made_at 29 1 #[X.v1, X.v2, X.v3, X.v4, X.v5, X.v6, .slice (some ⟨w3.heap.size, 0, none⟩) 1 1] 7 (w3.heap.size + 1) (by simp) rfl (by unfold maxLen; decide)
      have hU3 := HUk.out.later O5.below
      have sN : Sts _ (.slice (some ⟨w3.heap.size, 0, none⟩) 1 1) [X.name] := sts_one O5 (List.mem_cons_of_mem _ (List.mem_cons_self ..))
      have eN : [X.name] = [us[k].name] := by rw [hU3.name]
      rw [eN] at sN
      have hrow : ∀ i, i < 7 → ∃ y l, ((w3.alloc (.cells #[.string (toB X.name)] 9)).alloc (.cells #[X.v1, X.v2, X.v3, X.v4, X.v5, X.v6, .slice (some ⟨w3.heap.size, 0, none⟩) 1 1] 29)).cell? ⟨w3.heap.size + 1, i, none⟩ = some y ∧ Sts ((w3.alloc (.cells #[.string (toB X.name)] 9)).alloc (.cells #[X.v1, X.v2, X.v3, X.v4, X.v5, X.v6, .slice (some ⟨w3.heap.size, 0, none⟩) 1 1] 29)) y l ∧ (us[k].lists ++ [[us[k].name]])[i]? = some l := fun i hi => by
        have hc := O5.cell i (by omega)
        match i, hi with
        | 0, _ => exact ⟨_, _, hc, hU3.s1, rfl⟩
        | 1, _ => exact ⟨_, _, hc, hU3.s2, rfl⟩
        | 2, _ => exact ⟨_, _, hc, hU3.s3, rfl⟩
        | 3, _ => exact ⟨_, _, hc, hU3.s4, rfl⟩
        | 4, _ => exact ⟨_, _, hc, hU3.s5, rfl⟩
        | 5, _ => exact ⟨_, _, hc, hU3.s6, rfl⟩
        | 6, _ => exact ⟨_, _, hc, sN, rfl⟩
      have HRow := Lib.hid hrow
      have HB5 := Lib.hid (HBW.out.trans (O5.below.mono HBW.out.size))
      obtain ⟨a1, m1, c1, e1⟩ := HUk.out.s1.shape
      obtain ⟨a2, m2, c2, e2⟩ := HUk.out.s2.shape
      obtain ⟨a3, m3, c3, e3⟩ := HUk.out.s3.shape
      obtain ⟨a4, m4, c4, e4⟩ := HUk.out.s4.shape
      obtain ⟨a5, m5, c5, e5⟩ := HUk.out.s5.shape
      obtain ⟨a6, m6, c6, e6⟩ := HUk.out.s6.shape
      clear hrow O4 O5 hU3 sN q hO3 D eN
      rw [e1] at d1 HRow HB5
      rw [e2] at d2 HRow HB5
      rw [e3] at d3 HRow HB5
      rw [e4] at d4 HRow HB5
      rw [e5] at d5 HRow HB5
      rw [e6] at d6 HRow HB5
      generalize toB X.name = xnb at *
      clear e1 e2 e3 e4 e5 e6
      go_wp2_with fail
      obtain ⟨W5, hW5⟩ : ∃ W5, W5 = ((w3.alloc (.cells #[.string xnb] 9)).alloc (.cells #[.slice a1 m1 c1, .slice a2 m2 c2, .slice a3 m3 c3, .slice a4 m4 c4, .slice a5 m5 c5, .slice a6 m6 c6, .slice (some ⟨w3.heap.size, 0, none⟩) 1 1] 29)) := ⟨_, rfl⟩
      rw [← hW5] at HRow HB5 ⊢
      clear hW5 d0 d1 d2 d3 d4 d5 d6
      generalize hls : us[k].lists ++ [[us[k].name]] = ls at *
      have hll : Hid (ls.length = 7) := by rw [← hls]; rfl
      have HLS := Lib.hid hls
      clear hls
      go_loopw [35] (fun s wq => ∃ i : Nat, i ≤ 7 ∧ s = .int .i64 i ∧ W5 = wq ∧ Hid (∀ l ∈ ls.take i, okL l)) (fun s _ => 7 - (intOf s).toNat)
      case atStart => exact ⟨0, Nat.zero_le _, rfl, rfl, fun l hl => by cases hl⟩
      case round =>
        obtain ⟨i, hi, rfl, rfl, HI⟩ := hrel
        by_cases hil : i < 7
        · obtain ⟨y, l, hc, hs, hl⟩ := HRow.out i hil
          obtain ⟨la, lc, rfl, h2, h3, h4⟩ := id hs
          have hlm : (l.length : Int) ≤ 9223372036854775807 := by unfold maxLen at h3; omega
          have HT2 := Lib.hid (show ls.take (i + 1) = ls.take i ++ [l] from by rw [List.take_add_one, hl]; rfl)
          have H4 := Lib.hid h4
          have hiz : (i : Int) < 7 := by omega
          clear hs h2 h3 h4 hl
          by_cases hten : 10 < l.length
          · have hti : (10 : Int) < (l.length : Int) := by omega
            clear hten
            go_wp2_with fail
            go_ret
            exact ⟨HB5.out, .inl rfl⟩
          · have hti : (l.length : Int) ≤ 10 := by omega
            have HTen := Lib.hid (show l.length ≤ 10 by omega)
            clear hten
            go_wp2_with fail
            go_loopw [44] (fun s wq => ∃ j : Nat, j ≤ l.length ∧ s = .int .i64 j ∧ W5 = wq ∧ Hid (∀ x ∈ l.take j, x.length ≤ 60)) (fun s _ => l.length - (intOf s).toNat)
            case atStart => exact ⟨0, Nat.zero_le _, rfl, rfl, fun x hx => by cases hx⟩
            case round =>
              obtain ⟨j, hj, rfl, rfl, HJ⟩ := hrel
              by_cases hjl : j < l.length
              · obtain ⟨b9, o9, rfl, _, hc9⟩ := H4.out (by omega)
                have ck := hc9 j hjl
                have hjz : (j : Int) < (l.length : Int) := by omega
                have HT3 := Lib.hid (show l.take (j + 1) = l.take j ++ [l[j]] from List.take_succ_eq_append_getElem hjl)
                have hsz := toB_size l[j]
                clear hc9
                generalize l[j] = x at *
                by_cases hsix : 60 < x.length
                · have hzz : (60 : Int) < ((toB x).size : Int) := by rw [hsz]; omega
                  clear hsix hsz
                  generalize toB x = xb at *
                  go_wp2_with fail
                  go_ret
                  exact ⟨HB5.out, .inl rfl⟩
                · have hzz : ((toB x).size : Int) ≤ 60 := by rw [hsz]; omega
                  have HJ2 := Lib.hid (show ∀ y ∈ l.take (j + 1), y.length ≤ 60 from fun y hy => by
                    rw [HT3.out] at hy
                    rcases List.mem_append.1 hy with hy | hy
                    · exact HJ.out y hy
                    · rw [List.mem_singleton.1 hy]; omega)
                  clear hsix hsz
                  generalize toB x = xb at *
                  go_wp2_with fail
                  go_roundw
                  case rel => exact ⟨j + 1, by omega, by go_num, trivial, HJ2⟩
                  case measure => simp [intOf]; omega
              · have HI2 := Lib.hid (show ∀ m ∈ ls.take (i + 1), okL m from fun m hm => by
                  rw [HT2.out] at hm
                  rcases List.mem_append.1 hm with hm | hm
                  · exact HI.out m hm
                  · rw [List.mem_singleton.1 hm]
                    refine ⟨HTen.out, fun x hx => HJ.out x ?_⟩
                    rwa [List.take_of_length_le (by omega)])
                have hje : j = l.length := by omega
                subst hje
                clear hjl
                go_wp2_with fail
                go_roundw
                case rel => exact ⟨i + 1, by omega, by go_num, trivial, HI2⟩
                case measure => simp [intOf]; omega
        · obtain rfl : i = 7 := by omega
          have HA2 := Lib.hid (show ∀ u ∈ us.take (k + 1), ∀ l ∈ u.lists ++ [[u.name]], okL l from fun u hu => by
            rw [HT.out] at hu
            rcases List.mem_append.1 hu with hu | hu
            · exact HA.out u hu
            · rw [List.mem_singleton.1 hu, HLS.out]
              intro l hl
              exact HI.out l (by rw [List.take_of_length_le (by rw [hll.out]; exact Nat.le_refl _)]; exact hl))
          go_wp2_with fail
          go_roundw
          case rel => exact ⟨k + 1, by omega, by go_num, HB5.out, HA2⟩
          case measure => simp [intOf]; omega
    · obtain rfl : k = us.length := by omega
      have HE := Lib.hid (show SmallU us from ⟨HF.out, by have := HA.out; rwa [List.take_length] at this⟩)
      have HBW := Lib.hid hbw
      clear hbw
      go_wp2_with fail
      go_ret
      exact ⟨HBW.out, .inr ⟨rfl, HE.out⟩⟩
end Go.Proofs.YtnjabanjgckeoaaGreatDoor
end

/- Units, and texts, among the arguments. -/
section
namespace Go.Proofs.YtnjabanjgckeoaaGreatDoor
open Go.RowKit Go.WideShapes Go.ChangeShapes Go.ChangeAt
set_option linter.unusedVariables false
set_option linter.unusedSimpArgs false
set_option maxRecDepth 100000

theorem choose_listG {β : Type} {P : Nat → β → Prop} : ∀ (n : Nat), (∀ i < n, ∃ y, P i y) → ∃ l : List β, l.length = n ∧ ∀ i (hi : i < l.length), P i l[i] := by
  intro n
  induction n with
  | zero => intro _; exact ⟨[], rfl, fun i hi => absurd hi (by simp)⟩
  | succ n ih =>
    intro h
    obtain ⟨l, h1, h2⟩ := ih fun i hi => h i (by omega)
    obtain ⟨y, hy⟩ := h n (Nat.lt_succ_self n)
    refine ⟨l ++ [y], by simp [h1], fun i hi => ?_⟩
    by_cases hin : i < l.length
    · rw [List.getElem_append_left hin]; exact h2 i hin
    · have : i = l.length := by simp at hi; omega
      subst this
      simp only [List.getElem_append_right (Nat.le_refl _), Nat.sub_self, List.getElem_cons_zero]
      rw [h1]; exact hy
section
variable {H : Type} {enc : TypeId × Value → H} {P : Program} {w : World} {base : Nat} {spare : Nat → Bool} {held : Bool}
theorem trod_struct8G {t : TypeId} {f0 f1 f2 f3 f4 f5 f6 f7 : Field} {fuel : Nat} {cs : List Value} {x : DataW H × List MemPlace} (ht : P.underlying t = some (.struct #[f0, f1, f2, f3, f4, f5, f6, f7])) (h : DataW.trod enc P w base spare held fuel t cs = some x) :
    ∃ y0 y1 y2 y3 y4 y5 y6 y7 n, DataW.trod enc P w base spare held n f0.type ((cs.drop f0.offset).take (P.cellsOf f0.type)) = some y0 ∧
      DataW.trod enc P w base spare held n f1.type ((cs.drop f1.offset).take (P.cellsOf f1.type)) = some y1 ∧ DataW.trod enc P w base spare held n f2.type ((cs.drop f2.offset).take (P.cellsOf f2.type)) = some y2 ∧
      DataW.trod enc P w base spare held n f3.type ((cs.drop f3.offset).take (P.cellsOf f3.type)) = some y3 ∧ DataW.trod enc P w base spare held n f4.type ((cs.drop f4.offset).take (P.cellsOf f4.type)) = some y4 ∧
      DataW.trod enc P w base spare held n f5.type ((cs.drop f5.offset).take (P.cellsOf f5.type)) = some y5 ∧ DataW.trod enc P w base spare held n f6.type ((cs.drop f6.offset).take (P.cellsOf f6.type)) = some y6 ∧
      DataW.trod enc P w base spare held n f7.type ((cs.drop f7.offset).take (P.cellsOf f7.type)) = some y7 := by
  obtain ⟨xs, n, _, rfl, hl, hlen, hf⟩ := DataW.trod_struct ht h
  match xs, hlen with
  | [y0, y1, y2, y3, y4, y5, y6, y7], _ => exact ⟨y0, y1, y2, y3, y4, y5, y6, y7, n, by simpa using hf 0 f0 rfl, by simpa using hf 1 f1 rfl, by simpa using hf 2 f2 rfl, by simpa using hf 3 f3 rfl, by simpa using hf 4 f4 rfl, by simpa using hf 5 f5 rfl, by simpa using hf 6 f6 rfl, by simpa using hf 7 f7 rfl⟩
end
theorem cellsG_str : Tryz.prog.cellsOf 9 = 1 := by kernel_rfl
theorem cellsG_int : Tryz.prog.cellsOf 3 = 1 := by kernel_rfl
theorem cellsG_strs : Tryz.prog.cellsOf 29 = 1 := by kernel_rfl
theorem cellsG_unit : Tryz.prog.cellsOf 64 = 8 := by kernel_rfl
theorem spot_zeroG {ad : Addr} {w : World} {v : Value} (h : w.cell? (ad.add 0) = some v) : ad.spot = none := by
  have := World.cell?_spot h
  unfold Addr.add at this
  rwa [if_pos rfl] at this
theorem spot_cellsG {w : World} {base n : Nat} {ad : Addr} {cs : List Value} (h : w.cells? base (ad.add (0 * n)) n = some cs) (hn : 0 < n) : ad.spot = none := by
  obtain ⟨_, h2, h3⟩ := World.cells?_some h
  have h0 := h3 0 hn
  rw [List.getElem?_eq_getElem (by omega), Nat.zero_mul] at h0
  have e : (ad.add 0) = ad := by unfold Addr.add; rw [if_pos rfl]
  rw [e] at h0
  exact spot_zeroG h0
theorem cells_atG {w : World} {base k n : Nat} {ad : Addr} {cs : List Value} (h : w.cells? base (ad.add k) n = some cs) (hs : ad.spot = none) : ∃ b off, ad = ⟨b, off, none⟩ ∧ w.rangeAt b (off + k) cs ∧ cs.length = n := by
  obtain ⟨_, h2, h3⟩ := World.cells?_some h
  obtain ⟨b, off, spot⟩ := ad
  have hs : spot = none := hs
  subst hs
  refine ⟨b, off, rfl, fun j v hj => ?_, h2⟩
  have hjl : j < n := by
    rw [← h2]
    exact (List.getElem?_eq_some_iff.1 hj).1
  have := h3 j hjl
  rw [Addr.add_mid, Addr.add_mid] at this
  rw [this]; exact hj
theorem spot_ofG {w : World} {a : Addr} {v : Value} (h : w.cell? a = some v) : a.spot = none := by
  unfold World.cell? at h
  split at h
  · split at h
    · cases h
    · rename_i h1; simpa using h1
  · cases h
theorem open_stsG {H : Type} {enc : TypeId × Value → H} {w : World} {base fuel : Nat} {held : Bool} {v : Value} {x : DataW H × List MemPlace} (hf : DataW.trod enc Tryz.prog w base (fun _ => true) held fuel 29 [v] = some x) :
    ∃ ls, Sts w v ls ∧ (v = .slice none 0 0 ∨ ∃ a n c, v = .slice (some a) n c) ∧ ∀ y ∈ ls, y.length ≤ maxLen := by
  rcases Go.Deep.open_slice1 Tryz.underlying29 cellsG_str hf with ⟨h1, _⟩ | ⟨ad, len, cp, m, q, V, D, Pl, h1, hb, hl, hm, hmm, _, hx⟩
  · injection h1 with h1 _
    subst h1
    exact ⟨[], ⟨none, 0, rfl, Nat.le_refl _, Nat.zero_le _, fun h => absurd h (by simp)⟩, .inl rfl, fun y hy => by cases hy⟩
  · injection h1 with h1 _
    subst h1
    have each : ∀ i < len, ∃ y : List UInt8, w.cell? (ad.add i) = some (.string (toB y)) ∧ y.length ≤ maxLen := fun i hi => by
      obtain ⟨hc, ht⟩ := hx i (by rw [hmm]; split <;> omega)
      obtain ⟨s1, e0, _, w0⟩ := DataW.trod_string Tryz.underlying9 ht
      injection e0 with e0 _
      rw [e0] at hc
      refine ⟨s1.data.toList, hc, ?_⟩
      have hz : s1.data.toList.length = s1.size := (Lib.size_eq s1).symm
      rw [hz]
      exact w0
    obtain ⟨l, hl1, hl2⟩ := choose_listG len each
    refine ⟨l, ⟨some ad, cp, by rw [hl1], by omega, hm, fun h => ?_⟩, .inr ⟨_, _, _, rfl⟩, fun y hy => ?_⟩
    · have h0 := (hl2 0 h).1
      have hs := spot_ofG h0
      have hs : ad.spot = none := by
        have e : ad.add 0 = ad := by unfold Addr.add; rw [if_pos rfl]
        rwa [e] at hs
      obtain ⟨b, o, p⟩ := ad
      have hs : p = none := hs
      subst hs
      refine ⟨b, o, rfl, World.block_lt_of_cell? w _ h0, fun j hj => ?_⟩
      have := (hl2 j hj).1
      rw [Addr.add_mid] at this
      exact this
    · obtain ⟨i, hi, rfl⟩ := List.getElem_of_mem hy
      exact (hl2 i hi).2

theorem Units.of : ∀ {w : World} (l : List (UV × GU)), (∀ i (h : i < l.length), UVIs w l[i].1 l[i].2) → Units w (l.map (·.1)) (l.map (·.2)) := by
  intro w l
  induction l with
  | nil => intro _; exact .nil
  | cons p r ih =>
    intro h
    exact .cons (h 0 (by simp)) (ih fun i hi => h (i + 1) (by simpa using hi))
/-- Units that came in. -/
theorem open_units {H : Type} {enc : TypeId × Value → H} {w : World} {base fuel : Nat} {held : Bool} {v : Value} {x : DataW H × List MemPlace} (hf : DataW.trod enc Tryz.prog w base (fun _ => true) held fuel 48 [v] = some x) :
    ∃ us, UArg w v us ∧ us.length ≤ maxLen := by
  rcases Go.Deep.open_slice Tryz.underlying48 hf with ⟨h1, _⟩ | ⟨ad, len, cp, m, q, D, Pl, h1, hb, hl, hm, hmm, _, hx⟩
  · injection h1 with h1 _
    subst h1
    exact ⟨[], ⟨none, 0, [], rfl, .nil, fun i hi => absurd hi (by simp)⟩, Nat.zero_le _⟩
  · injection h1 with h1 _
    subst h1
    have hsp0 : 0 < len → ad.spot = none := fun h0 => by
      obtain ⟨cs, hc, _⟩ := hx 0 (by rw [hmm]; split <;> omega)
      rw [cellsG_unit] at hc
      exact spot_cellsG hc (by decide)
    have each : ∀ i < len, ∃ y : UV × GU, (∃ g off, ad = ⟨g, off, none⟩ ∧ w.rangeAt g (off + i * 8) y.1.cells) ∧ UVIs w y.1 y.2 ∧ y.1.nilOk := fun i hi => by
      obtain ⟨cs, hc, ht⟩ := hx i (by rw [hmm]; split <;> omega)
      rw [cellsG_unit] at hc
      obtain ⟨b, off, e, hr, hlen⟩ := cells_atG hc (hsp0 (by omega))
      obtain ⟨c0, c1, c2, c3, c4, c5, c6, c7, rfl⟩ : ∃ c0 c1 c2 c3 c4 c5 c6 c7, cs = [c0, c1, c2, c3, c4, c5, c6, c7] := by
        match cs, hlen with
        | [c0, c1, c2, c3, c4, c5, c6, c7], _ => exact ⟨c0, c1, c2, c3, c4, c5, c6, c7, rfl⟩
      obtain ⟨y0, y1, y2, y3, y4, y5, y6, y7, n', t0, t1, t2, t3, t4, t5, t6, t7⟩ := trod_struct8G Tryz.underlying64 ht
      simp only [cellsG_str, cellsG_int, cellsG_strs, List.drop_zero, List.drop_succ_cons, List.take_succ_cons, List.take_zero] at t0 t1 t2 t3 t4 t5 t6 t7
      obtain ⟨s, e0, _, w0⟩ := DataW.trod_string Tryz.underlying9 t0
      obtain ⟨k, e7, _, _⟩ := DataW.trod_int Tryz.underlying3 t7
      injection e0 with e0 _; injection e7 with e7 _
      subst e0 e7
      obtain ⟨l0, q0, z0, _⟩ := open_stsG t1
      obtain ⟨l1, q1, z1, _⟩ := open_stsG t2
      obtain ⟨l2, q2, z2, _⟩ := open_stsG t3
      obtain ⟨l3, q3, z3, _⟩ := open_stsG t4
      obtain ⟨l4, q4, z4, _⟩ := open_stsG t5
      obtain ⟨l5, q5, z5, _⟩ := open_stsG t6
      exact ⟨(⟨s.data.toList, c1, c2, c3, c4, c5, c6, k⟩, ⟨s.data.toList, l0, l1, l2, l3, l4, l5, k⟩), ⟨b, off, e, hr⟩, ⟨rfl, rfl, q0, q1, q2, q3, q4, q5⟩, fun v hv => by
        simp only [List.mem_cons, List.not_mem_nil, or_false] at hv
        rcases hv with rfl | rfl | rfl | rfl | rfl | rfl
        · exact z0
        · exact z1
        · exact z2
        · exact z3
        · exact z4
        · exact z5⟩
    obtain ⟨l, hl1, hl2⟩ := choose_listG len each
    refine ⟨l.map (·.2), ⟨some ad, cp, l.map (·.1), by rw [List.length_map, hl1], Units.of l fun i hi => (hl2 i hi).2.1, fun i hi => ?_⟩, by rw [List.length_map]; omega⟩
    have hi' : i < l.length := by simpa using hi
    obtain ⟨g, off, e, hr⟩ := (hl2 i hi').1
    exact ⟨⟨g, off, by rw [e], by rw [List.getElem_map]; exact hr⟩, by rw [List.getElem_map]; exact (hl2 i hi').2.2⟩
end Go.Proofs.YtnjabanjgckeoaaGreatDoor
end

/- MgrLoses: its acts, handed in. -/
section
namespace Go.Proofs.YtnjabanjgckeoaaGreatDoor
open Go.RowKit Go.WideShapes Go.ChangeShapes
set_option linter.unusedVariables false
set_option linter.unusedSimpArgs false
set_option maxRecDepth 100000

theorem cellsM_act : Tryz.prog.cellsOf 70 = 2 := by kernel_rfl
/-- Acts that were handed in: what kind of act, and of which unit. -/
def ActsM (w : World) (a : Option Addr) (l : List (Int × ByteArray)) : Prop := ∀ i (h : i < l.length), ∃ (g off : Nat), a = some ⟨g, off, none⟩ ∧ w.cell? ⟨g, off + i * 2, none⟩ = some (.int .i64 l[i].1) ∧ w.cell? ⟨g, off + i * 2 + 1, none⟩ = some (.string l[i].2)
theorem ActsM.later {w w' : World} {a : Option Addr} {l : List (Int × ByteArray)} (h : ActsM w a l) (hb : Below w.heap.size w w') : ActsM w' a l := fun i hi => by
  obtain ⟨g, off, e, h1, h2⟩ := h i hi
  exact ⟨g, off, e, (hb.cell (p := ⟨g, off + i * 2, none⟩) (World.block_lt_of_cell? w _ h1)).trans h1, (hb.cell (p := ⟨g, off + i * 2 + 1, none⟩) (World.block_lt_of_cell? w _ h2)).trans h2⟩
theorem open_actsM {H : Type} {enc : TypeId × Value → H} {w : World} {base fuel : Nat} {held : Bool} {v : Value} {x : DataW H × List MemPlace} (hf : DataW.trod enc Tryz.prog w base (fun _ => true) held fuel 49 [v] = some x) :
    ∃ (a : Option Addr) (l : List (Int × ByteArray)) (cap : Nat), v = .slice a l.length cap ∧ ActsM w a l ∧ l.length ≤ maxLen := by
  rcases Go.Deep.open_slice Tryz.underlying49 hf with ⟨h1, hx⟩ | ⟨ad, len, cp, m, q, D, Pl, h1, hb, hl, hm, hmm, hxx, hx⟩
  · injection h1 with h1 _
    subst h1
    exact ⟨none, [], 0, rfl, fun i hi => absurd hi (by simp), Nat.zero_le _⟩
  · injection h1 with h1 _
    subst h1
    have hsp0 : 0 < len → ad.spot = none := fun h0 => by
      obtain ⟨cs, hc, _⟩ := hx 0 (by rw [hmm]; split <;> omega)
      rw [cellsM_act] at hc
      exact spot_cellsG hc (by decide)
    have each : ∀ i < len, ∃ y : Int × ByteArray, ∃ (g off : Nat), (some ad) = some ⟨g, off, none⟩ ∧ w.cell? ⟨g, off + i * 2, none⟩ = some (.int .i64 y.1) ∧ w.cell? ⟨g, off + i * 2 + 1, none⟩ = some (.string y.2) := fun i hi => by
      obtain ⟨cs, hc, ht⟩ := hx i (by rw [hmm]; split <;> omega)
      rw [cellsM_act] at hc
      obtain ⟨b, off, e, hr, hlen⟩ := cells_atG hc (hsp0 (by omega))
      obtain ⟨c0, c1, rfl⟩ : ∃ c0 c1, cs = [c0, c1] := by
        match cs, hlen with
        | [c0, c1], _ => exact ⟨c0, c1, rfl⟩
      obtain ⟨y0, y1, n', _, hcl, t0, t1⟩ := trod_struct2 Tryz.underlying70 ht
      simp only [cellsG_str, cellsG_int, List.drop_zero, List.drop_succ_cons, List.take_succ_cons, List.take_zero] at t0 t1
      obtain ⟨κ, e0, _, w0⟩ := DataW.trod_int Tryz.underlying3 t0
      obtain ⟨s, e1, _, w1⟩ := DataW.trod_string Tryz.underlying9 t1
      injection e0 with e0 _; injection e1 with e1 _
      subst e0 e1
      exact ⟨(κ, s), b, off, by rw [e], hr 0 _ rfl, hr 1 _ rfl⟩
    obtain ⟨l, hl1, hl2⟩ := choose_listG len each
    exact ⟨some ad, l, cp, by rw [hl1], fun i hi => hl2 i hi, by omega⟩
end Go.Proofs.YtnjabanjgckeoaaGreatDoor
end

/- MgrLoses: the walk. -/
section
namespace Go.Proofs.YtnjabanjgckeoaaGreatDoor
open Go.RowKit
open Go.ChangeMaps (setBlock)
set_option linter.unusedVariables false
set_option linter.unusedSimpArgs false
set_option maxRecDepth 100000

theorem and3L (n : Int) : ∃ r : Nat, bits .and .i64 n 3 = (r : Int) ∧ r ≤ 3 := by
  have h3 : (BitVec.ofInt 64 3).toNat = 2 ^ 2 - 1 := by decide
  have key : (BitVec.ofInt 64 n &&& BitVec.ofInt 64 3).toNat = (n % ((2 ^ 64 : Nat) : Int)).toNat % 2 ^ 2 := by
    rw [BitVec.toNat_and, BitVec.toNat_ofInt, h3, Nat.and_two_pow_sub_one_eq_mod]
  have h4 : bits .and .i64 n 3 = n % 4 := by
    show IntKind.i64.wrap ((BitVec.ofInt 64 n &&& BitVec.ofInt 64 3).toNat : Nat) = n % 4
    rw [key, IntKind.wrap_i64]
    omega
  exact ⟨(n % 4).toNat, by rw [h4]; omega, by omega⟩
theorem SmallU.shortF {us : List GU} (h : SmallU us) (hd : (namesU us).Nodup) : ShortF us := shortF_of hd fun u hu f hf => by
  have := (h.2 u hu u.fi (List.mem_append_left _ (by simp [GU.lists]))).2 f hf
  omega
def VLs (last : Int) : MV := ⟨EM, [], last, [], [], []⟩
def NamR (w3 w8 : World) (v mb tb g : Nat) (us : List GU) (ord : List Nm) (N : Nat) (last : Int) (n : Nat) (s : Value) (wr : World) : Prop := ∃ k : Nat, k ≤ n ∧ s = .int .i64 k ∧ MgAt w3 v mb tb g us ord N (VLs last) wr ∧ Below w8.heap.size w8 wr
theorem ints4 (w : World) : IntsAt (w.alloc (.cells #[.int .i64 1, .int .i64 2, .int .i64 3, .int .i64 4] 3)) (.slice (some ⟨w.heap.size, 0, none⟩) 4 4) [1, 2, 3, 4] :=
  ⟨w.heap.size, 0, 4, rfl, by show 4 ≤ 1000000; decide, fun j hj => by
    have hc := (MapKept.heap_alloc w (.cells #[.int .i64 1, .int .i64 2, .int .i64 3, .int .i64 4] 3)).1
    rw [Nat.zero_add, cell_at hc j]
    match j, hj with
    | 0, _ => rfl
    | 1, _ => rfl
    | 2, _ => rfl
    | 3, _ => rfl
    | n + 4, h => exact absurd h (by show ¬ (n + 4 < 4); omega)⟩
def LosR (w4 : World) (v mb tb g : Nat) (us : List GU) (ord : List Nm) (n : Nat) (s : Value) (wr : World) : Prop := ∃ (k : Nat) (V : MV), k ≤ n ∧ s = .int .i64 k ∧ MgAt w4 v mb tb g us ord (2 * k) V wr
set_option maxHeartbeats 16000000 in
theorem loses_law (w : World) (hm : Mx w) {v1 : Value} (us : List GU) (hu : UArg w v1 us) (hul : us.length ≤ maxLen) {a : Option Addr} {c : Nat} (l : List (Int × ByteArray)) (hA : ActsM w a l) :
    Calls Tryz.prog 6 #[v1, .slice a l.length c] w fun e w' => e = .returned (.bool true) ∧ Below w.heap.size w w' := by
  have hal := alive16 w hm
  have HM := Lib.hid hm
  have HU := Lib.hid hu
  have HA := Lib.hid hA
  have HUL := Lib.hid hul
  obtain ⟨ua, uc, uxs, huv, _, _⟩ := id hu
  subst huv
  have HSM := Lib.hid (fun (W : World) (hb : Below w.heap.size w W) => small_any (hu.later hb) hul)
  have HNW := Lib.hid (fun (W : World) (hb : Below w.heap.size w W) (hS : SmallU us) => new_any (hu.later hb) (by have := hS.1; omega) (fun n hn => by have := hS.names n hn; omega) hS.bnd)
  generalize us.length = ul at *
  clear hm hu hA hul
  go_enter Tryz.func6, Tryz.ntmps6
  go_wp2_with fail
  refine hal.mono ?_
  rintro e w1 ⟨rfl, hb1⟩
  have hsm := HSM.out w1 hb1
  have HB1 := Lib.hid hb1
  clear hal hb1 HSM
  go_wp2_with fail
  refine hsm.mono ?_
  rintro e w2 ⟨hb2, rfl | ⟨rfl, hS⟩⟩
  · have HB := Lib.hid (HB1.out.trans (hb2.mono HB1.out.size))
    clear hsm hb2
    go_wp2_with fail
    go_ret
    exact ⟨rfl, HB.out⟩
  have HB2 := Lib.hid (HB1.out.trans (hb2.mono HB1.out.size))
  have HS := Lib.hid hS
  clear hsm hb2 hS
  by_cases h100 : (100 : Int) < (l.length : Int)
  · go_wp2_with fail
    go_ret
    exact ⟨rfl, HB2.out⟩
  have hnw := HNW.out w2 HB2.out HS.out
  have HL100 := Lib.hid (show l.length ≤ 100 by omega)
  clear HNW
  go_wp2_with fail
  refine hnw.mono ?_
  rintro e w3 ⟨gv, nm, rfl, hb3, hbad, hgood, _⟩
  have HB3 := Lib.hid (HB2.out.trans (hb3.mono HB2.out.size))
  clear hnw hb3
  by_cases hE : errU us ≠ 0
  · have hne : (errU us != 0) = true := by simpa using hE
    rw [hbad hE]
    clear hbad hgood hE
    generalize errU us = er at *
    go_wp2_with fail
    go_ret
    exact ⟨rfl, HB3.out⟩
  have hE := Decidable.not_not.1 hE
  obtain ⟨g, rfl, hG⟩ := hgood hE
  rw [hE]
  have hop := open16 w3 (HM.out.later HB3.out)
  have HG := Lib.hid hG
  have HSF := Lib.hid (HS.out.shortF hG.once)
  clear hbad hgood hG hE h100
  go_wp2_with fail
  refine hop.mono ?_
  rintro e w4 ⟨v, mb, tb, g0, rfl, h4⟩
  have hset := set_at16 (h4.pre HG.out)
  clear hop h4
  go_wp2_with fail
  refine hset.mono ?_
  rintro e w5 ⟨rfl, h5⟩
  have H5 := Lib.hid (show LosR w3 v mb tb g us (ordU us) l.length (.int .i64 0) w5 from ⟨0, VM, Nat.zero_le _, rfl, h5⟩)
  clear hset h5
  go_wp2_with fail
  go_loopw [43] (fun s43 wr => LosR w3 v mb tb g us (ordU us) l.length s43 wr) (fun s43 _ => l.length - (intOf s43).toNat)
  case atStart => exact H5.out
  case round =>
    obtain ⟨k, V, hk, rfl, hV⟩ := hrel
    by_cases hlt : k < l.length
    · obtain ⟨ag, ao, rfl, a0, a1⟩ := HA.out.later (HB3.out.trans (hV.below.mono HB3.out.size)) k hlt
      have hki : (k : Int) < (l.length : Int) := by omega
      have hkb : (k : Int) ≤ 100 := by have := HL100.out; omega
      have HK := Lib.hid hlt
      have hN : 2 * k ≤ 9000 := by have := HL100.out; omega
      generalize l[k].1 = κ at *
      generalize l[k].2 = sb at *
      clear hlt hk
      have hV1 := hV.later ((Below.refl _ wr).alloc (Nat.le_refl _) (.cells #[.int .i64 κ, .string sb] 70))
      obtain ⟨m, hm, hm3⟩ := and3L κ
      have e1 := start_at hV1 (HM.out.later HB3.out) hN HSF.out sb.data.toList (Nat.le_refl _)
      have e2 := ready_at hV1 hN sb.data.toList (Nat.le_refl _)
      have e3 := stop_at hV1 hN sb.data.toList (Nat.le_refl _)
      have e4 := fail_at hV1 (HM.out.later HB3.out) hN HSF.out sb.data.toList (Nat.le_refl _)
      rw [toB_back] at e1 e2 e3 e4
      have HN := Lib.hid (fun (V' : MV) (W : World) (h : MgAt w3 v mb tb g us (ordU us) (2 * k + 2) V' W) => (show LosR w3 v mb tb g us (ordU us) l.length (.int .i64 ((k + 1 : Nat) : Int)) W from ⟨k + 1, V', HK.out, rfl, h⟩))
      clear hV hV1 hN
      have hmc : m = 0 ∨ m = 1 ∨ m = 2 ∨ m = 3 := by omega
      clear hm3
      rcases hmc with rfl | rfl | rfl | rfl
      · clear e2 e3 e4
        go_wp2_with fail
        refine e1.mono ?_
        rintro e w6 ⟨rfl, h6⟩
        have H6 := Lib.hid (HN.out _ _ h6)
        clear e1 h6 a0 a1
        go_wp2_with fail
        go_roundw
        case rel =>
          have := H6.out
          rwa [show (.int .i64 ((k + 1 : Nat) : Int) : Value) = _ from by go_num] at this
        case measure => have := HK.out; simp [intOf]; omega
      · clear e1 e3 e4
        go_wp2_with fail
        refine e2.mono ?_
        rintro e w6 ⟨rfl, h6⟩
        have H6 := Lib.hid (HN.out _ _ h6)
        clear e2 h6 a0 a1
        go_wp2_with fail
        go_roundw
        case rel =>
          have := H6.out
          rwa [show (.int .i64 ((k + 1 : Nat) : Int) : Value) = _ from by go_num] at this
        case measure => have := HK.out; simp [intOf]; omega
      · clear e1 e2 e4
        go_wp2_with fail
        refine e3.mono ?_
        rintro e w6 ⟨rfl, h6⟩
        have H6 := Lib.hid (HN.out _ _ h6)
        clear e3 h6 a0 a1
        go_wp2_with fail
        go_roundw
        case rel =>
          have := H6.out
          rwa [show (.int .i64 ((k + 1 : Nat) : Int) : Value) = _ from by go_num] at this
        case measure => have := HK.out; simp [intOf]; omega
      · clear e1 e2 e3
        go_wp2_with fail
        refine e4.mono ?_
        rintro e w6 ⟨rfl, h6⟩
        have H6 := Lib.hid (HN.out _ _ h6)
        clear e4 h6 a0 a1
        go_wp2_with fail
        go_roundw
        case rel =>
          have := H6.out
          rwa [show (.int .i64 ((k + 1 : Nat) : Int) : Value) = _ from by go_num] at this
        case measure => have := HK.out; simp [intOf]; omega
    · obtain rfl : k = l.length := by omega
      have hop := open16 wr (HM.out.later (HB3.out.trans (hV.below.mono HB3.out.size)))
      have HV := Lib.hid hV
      clear hV hlt hk
      go_wp2_with fail
      refine hop.mono ?_
      rintro e w6 ⟨v2, mb2, tb2, gb2, rfl, h6⟩
      have hls := lose_at HV.out h6 (Nat.zero_le _)
      unfold filesV at hls
      have HVB := Lib.hid (show (⟨VM.E, VM.held, V.last, [], [], []⟩ : MV) = VLs V.last from rfl)
      clear hop h6
      go_wp2_with fail
      refine hls.mono ?_
      rintro e w7 ⟨rfl, h7⟩
      rw [HVB.out] at h7
      have hG7 := HG.out.later h7.below
      have hnm := hG7.names
      have HLN := Lib.hid (show (sortN (namesU us)).length ≤ 1000 from by rw [sortN_length]; unfold namesU; rw [List.length_map]; exact HG.out.few)
      have H7 := Lib.hid h7
      clear hls h7 hG7 HVB
      have HN9 := Lib.hid (show 2 * l.length ≤ 10000 from by have := HL100.out; omega)
      generalize V.last = last at *
      generalize 2 * l.length = N at *
      go_wp2_with fail
      refine hnm.mono ?_
      rintro e w8 ⟨nv, rfl, hO8⟩
      obtain ⟨na, nc, hnv, _, _⟩ := Own.sized (h := (show Own w7 w8 (⟨9, 1, nv, (sortN (namesU us)).length, strs (sortN (namesU us))⟩ :: []) from hO8))
      subst hnv
      have h8 := H7.out.later hO8.below
      have HN8 := Lib.hid (show NamR w3 w8 v2 mb tb g us (ordU us) N last (sortN (namesU us)).length (.int .i64 0) w8 from ⟨0, Nat.zero_le _, rfl, h8, Below.refl _ _⟩)
      have HST := Lib.hid (fun (W : World) (hb : Below w8.heap.size w8 W) => (hO8.sts).later hb)
      generalize sortN (namesU us) = nms at *
      clear hnm hO8 h8 H7
      go_wp2_with fail
      go_loopw [86] (fun s86 wq => NamR w3 w8 v2 mb tb g us (ordU us) N last nms.length s86 wq) (fun s86 _ => nms.length - (intOf s86).toNat)
      case atStart => exact HN8.out
      case round =>
        obtain ⟨j, hj, rfl, hM, hbj⟩ := hrel
        have hnl := HLN.out
        by_cases hjn : j < nms.length
        · obtain ⟨a', c', e1, _, _, h4⟩ := HST.out wr hbj
          injection e1 with e1 _ e3
          subst e1 e3
          obtain ⟨b, o, rfl, _, hc⟩ := h4 (by omega)
          have cj := hc j hjn
          have hji : (j : Int) < (nms.length : Int) := by omega
          have hjb : (j : Int) ≤ 1000 := by omega
          have HJ := Lib.hid hjn
          have ks : Calls Tryz.prog 39 #[.pointer (some ⟨mb, 0, none⟩), .string (toB nms[j])] wr fun e w' => e = .returned (.int .i64 0) ∧ wr = w' := state_at hM nms[j]
          have kp : Calls Tryz.prog 36 #[.pointer (some ⟨mb, 0, none⟩), .string (toB nms[j])] wr fun e w' => e = .returned (.int .i64 0) ∧ wr = w' := pid_at hM nms[j]
          have kh : Calls Tryz.prog 43 #[.pointer (some ⟨mb, 0, none⟩), .string (toB nms[j])] wr fun e w' => ∃ a c, e = .returned (.slice a 0 c) ∧ Below wr.heap.size wr w' := by
            refine (has_at hM nms[j] (by show 0 ≤ 1000000; decide)).mono fun e w' hh => ?_
            obtain ⟨v', q1, q2⟩ := hh
            obtain ⟨a, c, q3, _⟩ := Own.sized (h := (show Own wr w' (⟨9, 1, v', 0, strs []⟩ :: []) from q2))
            exact ⟨a, c, by rw [q1, q3], q2.below⟩
          have HR := Lib.hid (fun (W : World) (hb : Below wr.heap.size wr W) => (show NamR w3 w8 v2 mb tb g us (ordU us) N last nms.length (.int .i64 ((j + 1 : Nat) : Int)) W from ⟨j + 1, by omega, rfl, hM.later hb, hbj.trans (hb.mono hbj.size)⟩))
          generalize toB nms[j] = nb at *
          clear hM hbj h4 hc hnl hj hjn
          go_wp2_with fail
          refine ks.mono ?_
          rintro e w10 ⟨rfl, rfl⟩
          clear ks
          go_wp2_with fail
          refine kp.mono ?_
          rintro e w11 ⟨rfl, rfl⟩
          clear kp
          go_wp2_with fail
          refine kh.mono ?_
          rintro e w12 ⟨a12, c12, rfl, hb12⟩
          have H12 := Lib.hid (HR.out _ hb12)
          clear kh hb12 cj
          go_wp2_with fail
          go_roundw
          case rel =>
            have := H12.out
            rwa [show (.int .i64 ((j + 1 : Nat) : Int) : Value) = _ from by go_num] at this
          case measure => have := HJ.out; simp [intOf]; omega
        · obtain rfl : j = nms.length := by omega
          have hN9 : N ≤ 10000 := HN9.out
          have d0 := mgcells hM
          have kl : Calls Tryz.prog 16 #[.pointer (some ⟨tb, 0, none⟩)] wr fun e w' => ∃ a c, e = .returned (.slice a 0 c) ∧ Below wr.heap.size wr w' := mlist_at hM hN9
          have KE := Lib.hid (fun (W : World) (hb : Below wr.heap.size wr W) => (show Calls Tryz.prog 40 #[.pointer (some ⟨mb, 0, none⟩)] W fun e w' => ∃ a c, e = .returned (.slice a 0 c) ∧ MgAt w3 v2 mb tb g us (ordU us) N (VLs last) w' from
            (events_at (hM.later hb)).mono fun e w' hh => by
              obtain ⟨a, c, q1, q2, _⟩ := hh
              exact ⟨a, c, q1, q2⟩))
          have KI := Lib.hid (fun (W : World) (hW : MgAt w3 v2 mb tb g us (ordU us) N (VLs last) W) => (show Calls Tryz.prog 44 #[.pointer (some ⟨mb, 0, none⟩), .slice (some ⟨W.heap.size, 0, none⟩) 4 4] (W.alloc (.cells #[.int .i64 1, .int .i64 2, .int .i64 3, .int .i64 4] 3)) fun e w' => ∃ a c, e = .returned (.slice a 0 c) ∧ MgAt w3 v2 mb tb g us (ordU us) N (VLs last) w' from by
            have hW2 := hW.later ((Below.refl _ W).alloc (Nat.le_refl _) (.cells #[.int .i64 1, .int .i64 2, .int .i64 3, .int .i64 4] 3))
            refine (in_at hW2 hN9 (ints4 W)).mono fun e w' hh => ?_
            obtain ⟨v', q1, q2⟩ := hh
            obtain ⟨a, c, q3, _⟩ := Own.sized (h := (show Own _ w' (⟨9, 1, v', 0, strs []⟩ :: []) from q2))
            exact ⟨a, c, by rw [q1, q3], hW2.later q2.below⟩))
          have HM9 := Lib.hid hM
          clear hM hbj hnl hN9 hj hjn
          go_wp2_with fail
          refine kl.mono ?_
          rintro e w10 ⟨a10, c10, rfl, hb10⟩
          have ke := KE.out w10 hb10
          clear kl hb10 d0
          go_wp2_with fail
          refine ke.mono ?_
          rintro e w11 ⟨a11, c11, rfl, h11⟩
          have ki := KI.out w11 h11
          clear ke h11
          go_wp2_with fail
          refine ki.mono ?_
          rintro e w12 ⟨a12, c12, rfl, h12⟩
          have kg := graph_at h12
          have HB := Lib.hid (HB3.out.trans (h12.below.mono HB3.out.size))
          clear ki h12
          go_wp2_with fail
          refine kg.mono ?_
          rintro e w13 ⟨rfl, rfl⟩
          have hgg := eq_graph w12 g
          clear kg
          go_wp2_with fail
          go_ret
          exact ⟨rfl, HB.out⟩
end Go.Proofs.YtnjabanjgckeoaaGreatDoor
end
