/- Texts one behind the other, each in a section of its own: what calls make of memory, step by step. -/
import Derived.Test.YtnjabanjgckeoaaGreatDoorPackMgrRetries17
import Derived.Deep.RegionHeld3

/- Start. -/
section
namespace Go.Proofs.YtnjabanjgckeoaaGreatDoor
open Go.RowKit
open Go.ChangeMaps (setBlock)
set_option linter.unusedVariables false
set_option linter.unusedSimpArgs false
set_option maxRecDepth 100000

section
variable {w0 w w' : World} {v mb tb gb N : Nat} {us : List GU} {ord : List Nm} {V : MV}
/-- A unit's files are no longer than a path may be for memory. -/
def ShortF (us : List GU) : Prop := ∀ n, ∀ f ∈ (findU us n).fi, f.length ≤ 1000000
set_option maxHeartbeats 8000000 in
theorem start_at (h : MgAt w0 v mb tb gb us ord N V w) (hm : Mx w0) (hN : N ≤ 9000) (hf : ShortF us) (n : Nm) (hn : n.length ≤ n.length) :
    Calls Tryz.prog 25 #[.pointer (some ⟨mb, 0, none⟩), .string (toB n)] w fun e w' => e = .returned (.int .i64 (startV us V n).1) ∧ MgAt w0 v mb tb gb us ord (N + 2) (startV us V n).2 w' := by
  obtain ⟨K, L0, X, Y, M, h, rfl, rfl, rfl, rfl, hg, hG⟩ := h
  have hget := (hg.atM h).get2 n
  obtain ⟨⟨c0, c1, c2, c3⟩, _⟩ := h.cells
  have HG := Lib.hid hG
  have HM := Lib.hid hm
  have HF := Lib.hid (hf n)
  have HP := Lib.hid (fun (V' : MV) (W : World) (hV : (startV us (vw X Y M) n).2 = V') (hW : MgTo w0 K L0 v Y M V' W) => (show MgAt w0 v M.m Y.tb M.g us ord (N + 2) (startV us (vw X Y M) n).2 W from (by rw [hV]; exact hW.at hg (hV ▸ hG.start us n hn))))
  have HS := Lib.hid (show startV us (vw X Y M) n = (if n ∉ namesU us then (8, vw X Y M) else if (ofV (vw X Y M) n).state ≠ 0 ∧ (ofV (vw X Y M) n).state ≠ 4 then (20, vw X Y M) else if onV (vw X Y M) (findU us n).re = false then (16, vw X Y M) else issueV (vw X Y M) n (findU us n).fi 0) from rfl)
  have HO := Lib.hid (show (ofV (vw X Y M) n).state = (M.of n).state from by rw [of_vw]; rfl)
  have H := Lib.hid h
  clear h hg hG hm hf c0 c2 c3
  go_enter Tryz.func25, Tryz.ntmps25
  go_wp2_with fail
  refine hget.mono ?_
  rintro e w1 ⟨y, hy1, hy2, hU, rfl, hO⟩
  have h1 := H.out.join (S' := []) hO
  have hone := Lib.hid hU.one
  have hcs : (Tryz.prog.info? 64).map (·.size) = some y.cells.length := info_uv
  have h8 := Lib.hid (show (8 : Nat) = y.cells.length from rfl)
  have D4 := Lib.hid (show y.cells[4]? = some y.v4 from rfl)
  have D1 := Lib.hid (show y.cells[1]? = some y.v1 from rfl)
  have hin1 : (⟨0, 0, y.v1, 0, (findU us n).fi⟩ : RunD).Ok (rows6 y (findU us n) ++ L0) := .inr (List.mem_append_left _ (by simp [rows6]))
  have HI1 := Lib.hid hin1
  have HU := Lib.hid hU
  have H1 := Lib.hid h1
  have HL := Lib.hid (show ∀ r ∈ L0, r ∈ rows6 y (findU us n) ++ L0 from fun r hr => List.mem_append_right _ hr)
  have S4 := Lib.hid hU.s4
  clear hget hy1 hy2 hU hO h1 hin1 H HU
  generalize y.cells = cs at *
  generalize hbd : decide (n ∈ namesU us) = b at *
  have HBD := Lib.hid hbd
  clear hbd
  go_upto_region 2 with (refine wpList_store_new rfl 64 (.tmp 5) (.tmp 15) rfl (Own.start w1) cs w1.heap.size rfl rfl rfl h8.out hcs hone.out ?_)
  intro w2 hO2 _
  have c4 : w2.cell? ⟨w1.heap.size, 4, none⟩ = some y.v4 := by rw [hO2.cell 4 (by rw [← h8.out]; decide)]; exact D4.out
  have c5 : w2.cell? ⟨w1.heap.size, 1, none⟩ = some y.v1 := by rw [hO2.cell 1 (by rw [← h8.out]; decide)]; exact D1.out
  have h2 := H1.out.later hO2.below
  have s4 := S4.out.later hO2.below
  have hst := state_in h2 n
  have H2 := Lib.hid h2
  have HC5 := Lib.hid c5
  have HLT := Lib.hid (World.block_lt_of_cell? w2 ⟨w1.heap.size, 1, none⟩ c5)
  have HR := Lib.hid (fun (V' : MV) (W : World) (hb : Below w2.heap.size w2 W) => (show MgTo w0 K L0 v Y M (vw X Y M) W from ((h2.later hb).to).less (fun m hm => hm) HL.out))
  have hon := allOn_in h2 s4
  have HISS := Lib.hid (fun (W : World) (hb : Below w2.heap.size w2 W) => issue_in (h2.later hb) HM.out HG.out (by omega) n HI1.out HF.out 0)
  have hsh : ∃ a c, y.v1 = .slice a (findU us n).fi.length c := HI1.out.shape h2
  obtain ⟨a1, k1, hv1⟩ := hsh
  obtain ⟨a4, n4, k4, hv4⟩ := s4.shape
  clear hO2 h2 s4 D4 D1 S4 HI1 H1 hone h8 hcs c5
  generalize y.v4 = v4 at *
  generalize y.v1 = v1 at *
  subst hv1 hv4
  generalize hfl : (findU us n).fi.length = fl at *
  cases b with
  | false =>
    have hnn : n ∉ namesU us := by simpa using HBD.out
    have hs : startV us (vw X Y M) n = (8, vw X Y M) := by rw [HS.out, if_pos hnn]
    have HV := Lib.hid (HR.out (vw X Y M) w2 (Below.refl _ _))
    have HS2 := Lib.hid hs
    clear hnn hs c4 hon HISS
    generalize (M.of n).state = st at *
    go_wp2_with (go_at_call 39; refine hst.mono ?_; rintro e w9 ⟨rfl, rfl⟩)
    go_ret
    exact ⟨by rw [HS2.out]; rfl, HP.out _ _ (by rw [HS2.out]) HV.out⟩
  | true =>
    have HIN := Lib.hid (show ¬ n ∉ namesU us from by simpa using HBD.out)
    rw [HO.out] at HS
    generalize (M.of n).state = st at *
    generalize hob : onV (vw X Y M) (findU us n).re = bo at *
    have HOB := Lib.hid hob
    clear hob HO
    by_cases e0 : st = 0
    · subst e0
      have HS3 := Lib.hid (show startV us (vw X Y M) n = if bo = false then (16, vw X Y M) else issueV (vw X Y M) n (findU us n).fi 0 from by rw [HS.out, if_neg HIN.out, if_neg (by decide)])
      clear HS
      cases bo with
      | false =>
        have HS2 := Lib.hid (show startV us (vw X Y M) n = (16, vw X Y M) from by rw [HS3.out, if_pos rfl])
        clear HS3 HISS
        go_wp2_with (first
          | (go_at_call 66; refine hon.mono ?_; rintro e w3 ⟨rfl, hb3⟩; have HB3 := Lib.hid hb3; clear hb3)
          | (go_at_call 39; refine hst.mono ?_; rintro e w9 ⟨rfl, rfl⟩))
        go_ret
        exact ⟨by rw [HS2.out]; rfl, HP.out _ _ (by rw [HS2.out]) (HR.out (vw X Y M) _ HB3.out)⟩
      | true =>
        have HS2 := Lib.hid (show startV us (vw X Y M) n = issueV (vw X Y M) n (findU us n).fi 0 from by rw [HS3.out, if_neg (by decide)])
        clear HS3
        go_wp2_with (first
          | (go_at_call 67; have _g := HB3.out; clear _g; refine (HISS.out w3 HB3.out).mono ?_; rintro e w4 ⟨rfl, h4⟩; have H4 := Lib.hid h4; clear h4)
          | (go_at_call 66; refine hon.mono ?_; rintro e w3 ⟨rfl, hb3⟩; have c5 := (hb3.cell (p := ⟨w1.heap.size, 1, none⟩) HLT.out).trans HC5.out; have HB3 := Lib.hid hb3; clear hb3)
          | (go_at_call 39; refine hst.mono ?_; rintro e w9 ⟨rfl, rfl⟩))
        go_ret
        exact ⟨by rw [HS2.out]; rfl, HP.out _ _ (by rw [HS2.out]) (H4.out.less (fun m hm => hm) HL.out)⟩
    · by_cases e4 : st = 4
      · subst e4
        have HS3 := Lib.hid (show startV us (vw X Y M) n = if bo = false then (16, vw X Y M) else issueV (vw X Y M) n (findU us n).fi 0 from by rw [HS.out, if_neg HIN.out, if_neg (by decide)])
        clear HS
        cases bo with
        | false =>
          have HS2 := Lib.hid (show startV us (vw X Y M) n = (16, vw X Y M) from by rw [HS3.out, if_pos rfl])
          clear HS3 HISS
          go_wp2_with (first
            | (go_at_call 66; refine hon.mono ?_; rintro e w3 ⟨rfl, hb3⟩; have HB3 := Lib.hid hb3; clear hb3)
            | (go_at_call 39; refine hst.mono ?_; rintro e w9 ⟨rfl, rfl⟩))
          go_ret
          exact ⟨by rw [HS2.out]; rfl, HP.out _ _ (by rw [HS2.out]) (HR.out (vw X Y M) _ HB3.out)⟩
        | true =>
          have HS2 := Lib.hid (show startV us (vw X Y M) n = issueV (vw X Y M) n (findU us n).fi 0 from by rw [HS3.out, if_neg (by decide)])
          clear HS3
          go_wp2_with (first
            | (go_at_call 67; have _g := HB3.out; clear _g; refine (HISS.out w3 HB3.out).mono ?_; rintro e w4 ⟨rfl, h4⟩; have H4 := Lib.hid h4; clear h4)
            | (go_at_call 66; refine hon.mono ?_; rintro e w3 ⟨rfl, hb3⟩; have c5 := (hb3.cell (p := ⟨w1.heap.size, 1, none⟩) HLT.out).trans HC5.out; have HB3 := Lib.hid hb3; clear hb3)
            | (go_at_call 39; refine hst.mono ?_; rintro e w9 ⟨rfl, rfl⟩))
          go_ret
          exact ⟨by rw [HS2.out]; rfl, HP.out _ _ (by rw [HS2.out]) (H4.out.less (fun m hm => hm) HL.out)⟩
      · have g0 : (st != 0) = true := by simpa using e0
        have g4 : (st != 4) = true := by simpa using e4
        have HS2 := Lib.hid (show startV us (vw X Y M) n = (20, vw X Y M) from by rw [HS.out, if_neg HIN.out, if_pos ⟨e0, e4⟩])
        clear HS HISS hon e0 e4
        go_wp2_with (go_at_call 39; refine hst.mono ?_; rintro e w9 ⟨rfl, rfl⟩)
        go_ret
        exact ⟨by rw [HS2.out]; rfl, HP.out _ _ (by rw [HS2.out]) (HR.out (vw X Y M) _ (Below.refl _ _))⟩
end
end Go.Proofs.YtnjabanjgckeoaaGreatDoor
end

/- A block of a call's own beside a manager; Ready; Kill beside a manager. -/
section
namespace Go.Proofs.YtnjabanjgckeoaaGreatDoor
open Go.RowKit
open Go.ChangeMaps (setBlock)
set_option linter.unusedVariables false
set_option linter.unusedSimpArgs false
set_option maxRecDepth 100000

section
variable {w0 w w' : World} {K : Blocks} {L0 : List Rw} {v : Nat} {X : VX} {Y : Tab} {M : MS} {N : Nat}
theorem MgIn.newK (h : MgIn w0 K L0 v X Y M w) (o : Obj) : MgIn w0 ((w.heap.size, o) :: K) L0 v X Y M (w.alloc o) ∧ ∀ c y, (c, y) ∈ K → c ≠ w.heap.size := by
  refine ⟨h.join (N := []) ((Own.start w).newB o), fun c y hc => ?_⟩
  obtain ⟨o1, h1, _⟩ := h.x
  obtain ⟨L, hO, _⟩ := h1.ownK
  have := (hO.atLt (List.mem_cons_of_mem _ (List.mem_cons_of_mem _ hc))).2
  omega
theorem MgIn.cellK (h : MgIn w0 K L0 v X Y M w) {b : Nat} {x : Obj} (hb : (b, x) ∈ K) : w.heap[b]? = some x := by
  obtain ⟨o1, h1, _⟩ := h.x
  exact h1.cellK (List.mem_cons_of_mem _ (List.mem_cons_of_mem _ hb))
theorem MgIn.turnK {b : Nat} {x : Obj} (h : MgIn w0 ((b, x) :: K) L0 v X Y M w) (hK : ∀ c y, (c, y) ∈ K → c ≠ b) (y : Obj) : MgIn w0 ((b, y) :: K) L0 v X Y M (setBlock w b y) := by
  obtain ⟨o, h1, h2⟩ := h.x
  obtain ⟨n1, n2⟩ := h.off b x (List.mem_cons_self ..)
  have h3 : VTX w0 ((b, x) :: (M.m, .cells (mgCells Y.tb M) 90) :: (M.rb, o) :: K) L0 v X Y [rowEv M.ev M.evs] w := h1.subK fun c z hc => by
    rcases List.mem_cons.1 hc with hc | hc
    · exact hc ▸ List.mem_cons_of_mem _ (List.mem_cons_of_mem _ (List.mem_cons_self ..))
    · rcases List.mem_cons.1 hc with hc | hc
      · exact hc ▸ List.mem_cons_self ..
      · rcases List.mem_cons.1 hc with hc | hc
        · exact hc ▸ List.mem_cons_of_mem _ (List.mem_cons_self ..)
        · exact List.mem_cons_of_mem _ (List.mem_cons_of_mem _ (List.mem_cons_of_mem _ hc))
  have h4 := h3.turnK (fun c z hc => by
    rcases List.mem_cons.1 hc with hc | hc
    · obtain ⟨rfl, rfl⟩ := Prod.mk.inj hc
      exact fun e => n1 e.symm
    · rcases List.mem_cons.1 hc with hc | hc
      · obtain ⟨rfl, rfl⟩ := Prod.mk.inj hc
        exact fun e => n2 e.symm
      · exact hK c z hc) y
  refine ⟨⟨o, h4.subK fun c z hc => ?_, h2⟩, h.ne, fun c z hc => ?_, h.has⟩
  · rcases List.mem_cons.1 hc with hc | hc
    · exact hc ▸ List.mem_cons_of_mem _ (List.mem_cons_self ..)
    · rcases List.mem_cons.1 hc with hc | hc
      · exact hc ▸ List.mem_cons_of_mem _ (List.mem_cons_of_mem _ (List.mem_cons_self ..))
      · rcases List.mem_cons.1 hc with hc | hc
        · exact hc ▸ List.mem_cons_self ..
        · exact List.mem_cons_of_mem _ (List.mem_cons_of_mem _ (List.mem_cons_of_mem _ hc))
  · rcases List.mem_cons.1 hc with hc | hc
    · obtain ⟨rfl, rfl⟩ := Prod.mk.inj hc
      exact ⟨n1, n2⟩
    · exact h.off c z (List.mem_cons_of_mem _ hc)
/-- A cell of such a block is turned. -/
theorem MgIn.turnKc {b : Nat} {cs : Array Value} {T : TypeId} (h : MgIn w0 ((b, .cells cs T) :: K) L0 v X Y M w) (hK : ∀ c y, (c, y) ∈ K → c ≠ b) (j : Nat) (u : Value) : MgIn w0 ((b, .cells (cs.setIfInBounds j u) T) :: K) L0 v X Y M (w.setCell ⟨b, j, none⟩ u) := by
  rw [set_at (h.cellK (List.mem_cons_self ..))]
  exact h.turnK hK _
/-- Kill beside a manager. -/
theorem kill_in (h : MgIn w0 K L0 v X Y M w) (g : Gd N (vw X Y M)) (pid : Int) :
    Calls Tryz.prog 11 #[.pointer (some ⟨Y.tb, 0, none⟩), .int .i64 pid] w fun e w' => (∃ k, e = .returned (.int .i64 k)) ∧ ∃ Y', Y'.tb = Y.tb ∧ vw X Y' M = killV (vw X Y M) pid ∧ MgIn w0 K L0 v X Y' M w' := by
  have hkeys : (Y.runs.map (·.1)).Nodup := by
    have := g.keys
    have e : (vw X Y M).runs.map (·.1) = Y.runs.map (·.1) := by show (Y.runs.map _).map _ = _; rw [List.map_map]; rfl
    rwa [e] at this
  have hv : killV (vw X Y M) pid = match (look Y.runs pid).map vwP with
    | none => vw X Y M
    | some p => { (vw X Y M) with runs := put (vw X Y M).runs pid (p.1, p.2.1, true) } := by
    unfold killV
    rw [runs_vw]
    cases look Y.runs pid <;> rfl
  cases hl : look Y.runs pid with
  | none =>
    rw [hl] at hv
    refine (h.call (α := Unit) (P := fun _ e => e = .returned (.int .i64 8)) (X' := fun _ => X) (Y' := fun _ => Y) (fun _ => rfl) fun K' hV => (kill_no hV pid hl).mono fun e w' hh => ⟨(), hh⟩).mono fun e w' hh => ?_
    obtain ⟨_, h1, h2⟩ := hh
    exact ⟨⟨8, h1⟩, Y, rfl, hv.symm, h2⟩
  | some p =>
    rw [hl] at hv
    refine (h.call (α := Unit) (P := fun _ e => e = .returned (.int .i64 0)) (X' := fun _ => X) (Y' := fun _ => { Y with runs := put Y.runs pid { p with ends := true } }) (fun _ => rfl) fun K' hV => (kill_yes hV hkeys pid hl).mono fun e w' hh => ⟨(), hh⟩).mono fun e w' hh => ?_
    obtain ⟨_, h1, h2⟩ := hh
    refine ⟨⟨0, h1⟩, { Y with runs := put Y.runs pid { p with ends := true } }, rfl, ?_, h2⟩
    rw [hv]
    unfold vw
    dsimp only
    rw [putV_map vwP]
    rfl
/-- Exit beside a manager. -/
theorem exit_in (h : MgIn w0 K L0 v X Y M w) (g : Gd N (vw X Y M)) (hN : N ≤ 10000) (pid : Int) :
    Calls Tryz.prog 13 #[.pointer (some ⟨Y.tb, 0, none⟩), .int .i64 pid] w fun e w' => (∃ k, e = .returned (.int .i64 k)) ∧ ∃ X' Y', Y'.tb = Y.tb ∧ vw X' Y' M = exitV (vw X Y M) pid ∧ MgIn w0 K L0 v X' Y' M w' := by
  have hkeys : (Y.runs.map (·.1)).Nodup := by
    have := g.keys
    have e : (vw X Y M).runs.map (·.1) = Y.runs.map (·.1) := by show (Y.runs.map _).map _ = _; rw [List.map_map]; rfl
    rwa [e] at this
  have hv : exitV (vw X Y M) pid = match (look Y.runs pid).map vwP with
    | none => vw X Y M
    | some p => { (vw X Y M) with E := (letAll (vw X Y M).x p.2.1).E, held := (letAll (vw X Y M).x p.2.1).held, runs := del (vw X Y M).runs pid } := by
    unfold exitV
    rw [runs_vw]
    cases look Y.runs pid <;> rfl
  cases hl : look Y.runs pid with
  | none =>
    rw [hl] at hv
    refine (h.call (α := Unit) (P := fun _ e => e = .returned (.int .i64 8)) (X' := fun _ => X) (Y' := fun _ => Y) (fun _ => rfl) fun K' hV => (exit_no hV pid hl).mono fun e w' hh => ⟨(), hh⟩).mono fun e w' hh => ?_
    obtain ⟨_, h1, h2⟩ := hh
    exact ⟨⟨8, h1⟩, X, Y, rfl, hv.symm, h2⟩
  | some p =>
    rw [hl] at hv
    have hml : p.maps.length ≤ 8 := (g.each (pid, vwP p) (List.mem_map.2 ⟨_, look_mem hl, rfl⟩)).2
    refine (h.call (α := Unit) (P := fun _ e => e = .returned (.int .i64 0)) (X' := fun _ => letAll X p.maps) (Y' := fun _ => { Y with runs := del Y.runs pid }) (fun _ => rfl) fun K' hV => (exit_yes hV hkeys (N := 8 * N) (g.held.like ⟨rfl, rfl⟩) (by omega) pid hl (by omega)).mono fun e w' hh => ⟨(), hh⟩).mono fun e w' hh => ?_
    obtain ⟨_, h1, h2⟩ := hh
    refine ⟨⟨0, h1⟩, letAll X p.maps, { Y with runs := del Y.runs pid }, rfl, ?_, h2⟩
    rw [hv]
    have hq := LikeX.letAll (show LikeX X (vw X Y M).x from ⟨rfl, rfl⟩) p.maps
    unfold vw at hq ⊢
    dsimp only at hq ⊢
    rw [delV_map vwP, hq.1, hq.2]
    rfl
end
section
variable {w0 w w' : World} {v mb tb gb N : Nat} {us : List GU} {ord : List Nm} {V : MV}
theorem turn_mg {K K1 : Blocks} {L0 L1 : List Rw} {X : VX} {Y Y1 : Tab} {M : MS} (h : MgIn w0 K1 L1 v X Y1 M w) (n : Nm) {r : RunD} (hr : r.Ok L1) (kind : Int) (hlen : M.evs.length ≤ 1000000) {V : MV} (hv : vw X Y1 M = V) (ht : Y1.tb = Y.tb) (hK : ∀ m ∈ K, m ∈ K1) (hL : ∀ r ∈ L0, r ∈ L1) :
    Calls Tryz.prog 68 #[.pointer (some ⟨M.m, 0, none⟩), .string (toB n), r.val, .int .i64 kind] w fun e w' => e = .returned (.tuple #[]) ∧ MgTo w0 K L0 v Y M (turnV V n r.view kind) w' :=
  (turn_in h n hr kind hlen).mono fun e w' hh => by
    obtain ⟨h1, ev, h2⟩ := hh
    exact ⟨h1, K1, L1, X, Y1, _, h2, by rw [vw_turn, hv], rfl, ht, rfl, hK, hL⟩
set_option maxHeartbeats 4000000 in
theorem ready_at (h : MgAt w0 v mb tb gb us ord N V w) (hN : N ≤ 9000) (n : Nm) (hn : n.length ≤ n.length) :
    Calls Tryz.prog 27 #[.pointer (some ⟨mb, 0, none⟩), .string (toB n)] w fun e w' => e = .returned (.int .i64 (readyV V n).1) ∧ MgAt w0 v mb tb gb us ord (N + 2) (readyV V n).2 w' := by
  obtain ⟨K, L0, X, Y, M, h, rfl, rfl, rfl, rfl, hg, hG⟩ := h
  obtain ⟨⟨c0, c1, c2, c3⟩, _⟩ := h.cells
  have hl := h.lookup n
  have hok := h.ok n
  obtain ⟨a, c, hs⟩ := h.shape n
  have HP := Lib.hid (fun (V' : MV) (W : World) (hV : (readyV (vw X Y M) n).2 = V') (hW : MgTo w0 K L0 v Y M V' W) => (show MgAt w0 v M.m Y.tb M.g us ord (N + 2) (readyV (vw X Y M) n).2 W from (by rw [hV]; exact hW.at hg (hV ▸ hG.ready n hn))))
  have hR : readyV (vw X Y M) n = if (M.of n).state ≠ 1 then (20, vw X Y M) else (0, turnV (vw X Y M) n { (M.of n).view with state := 2 } 1) := by
    unfold readyV
    rw [of_vw]
    rfl
  have hlen := evs_le hG (by omega)
  unfold RunD.val at hl
  generalize M.of n = r at *
  obtain ⟨st, pid, hv, tr, fs⟩ := r
  dsimp only at hs hl hR
  subst hs
  obtain ⟨h1, hK⟩ := h.newK (.cells #[.int .i64 st, .int .i64 pid, .slice a fs.length c, .int .i64 tr] 150)
  have hc1 := h1.cellK (List.mem_cons_self ..)
  have b0 := cell_at hc1 0
  have f0 := free_at hc1 0
  have h2 := h1.turnKc hK 0 (.int .i64 2)
  have hc2 := h2.cellK (List.mem_cons_self ..)
  have d0 := cell_at hc2 0
  have d1 := cell_at hc2 1
  have d2 := cell_at hc2 2
  have d3 := cell_at hc2 3
  by_cases h0 : st = 1
  · subst h0
    rw [if_neg (by simp)] at hR
    have ht := turn_mg (K := K) (L0 := L0) (Y := Y) h2 n (r := ⟨2, pid, .slice a fs.length c, tr, fs⟩) hok 1 hlen rfl rfl (fun m hm => List.mem_cons_of_mem _ hm) (fun _ h => h)
    unfold RunD.val at ht
    dsimp only at ht
    have HR := Lib.hid hR
    clear h h1 h2 hc1 hc2 hG hg hK hok hlen hR c0 c1 c3
    generalize hfl : fs.length = fl at *
    generalize hnb : toB n = nb at *
    generalize hW1 : w.alloc (.cells #[.int .i64 1, .int .i64 pid, .slice a fl c, .int .i64 tr] 150) = w1 at *
    go_enter Tryz.func27, Tryz.ntmps27
    go_wp2_with fail
    refine ht.mono ?_
    rintro e w3 ⟨rfl, h3⟩
    have H3 := Lib.hid h3
    clear ht h3
    go_wp2_with fail
    go_ret
    exact ⟨by rw [HR.out]; rfl, HP.out _ _ (by rw [HR.out]; rfl) H3.out⟩
  · rw [if_pos h0] at hR
    have g0 : (st != 1) = true := by simpa using h0
    have HR := Lib.hid hR
    have HT := Lib.hid (show MgTo w0 K L0 v Y M (vw X Y M) (w.alloc (.cells #[.int .i64 st, .int .i64 pid, .slice a fs.length c, .int .i64 tr] 150)) from h1.to.less (fun m hm => List.mem_cons_of_mem _ hm) (fun _ h => h))
    clear h h1 h2 hc1 hc2 hG hg hK hok hlen hR c0 c1 c3 d0 d1 d2 d3
    generalize hfl : fs.length = fl at *
    generalize hnb : toB n = nb at *
    go_enter Tryz.func27, Tryz.ntmps27
    go_wp2_with fail
    go_ret
    exact ⟨by rw [HR.out]; rfl, HP.out _ _ (by rw [HR.out]) HT.out⟩
end
end Go.Proofs.YtnjabanjgckeoaaGreatDoor
end

/- Stop. -/
section
namespace Go.Proofs.YtnjabanjgckeoaaGreatDoor
open Go.RowKit
open Go.ChangeMaps (setBlock)
set_option linter.unusedVariables false
set_option linter.unusedSimpArgs false
set_option maxRecDepth 100000

section
variable {w0 w w' : World} {v mb tb gb N : Nat} {us : List GU} {ord : List Nm} {V : MV}
set_option maxHeartbeats 8000000 in
theorem stop_at (h : MgAt w0 v mb tb gb us ord N V w) (hN : N ≤ 9000) (n : Nm) (hn : n.length ≤ n.length) :
    Calls Tryz.prog 29 #[.pointer (some ⟨mb, 0, none⟩), .string (toB n)] w fun e w' => e = .returned (.int .i64 (stopV V n).1) ∧ MgAt w0 v mb tb gb us ord (N + 2) (stopV V n).2 w' := by
  obtain ⟨K, L0, X, Y, M, h, rfl, rfl, rfl, rfl, hg, hG⟩ := h
  obtain ⟨⟨c0, c1, c2, c3⟩, _⟩ := h.cells
  have hl := h.lookup n
  have hok := h.ok n
  obtain ⟨a, c, hs⟩ := h.shape n
  have HP := Lib.hid (fun (V' : MV) (W : World) (hV : (stopV (vw X Y M) n).2 = V') (hW : MgTo w0 K L0 v Y M V' W) => (show MgAt w0 v M.m Y.tb M.g us ord (N + 2) (stopV (vw X Y M) n).2 W from (by rw [hV]; exact hW.at hg (hV ▸ hG.stop n hn))))
  have hR : stopV (vw X Y M) n = if (M.of n).state = 1 ∨ (M.of n).state = 2 then (0, turnV (killV (vw X Y M) (M.of n).pid) n { (M.of n).view with state := 3 } 2) else if (M.of n).state = 4 then (0, turnV (vw X Y M) n RV.zero 3) else (20, vw X Y M) := by
    unfold stopV
    rw [of_vw]
    rfl
  have hlen := evs_le hG (by omega)
  unfold RunD.val at hl
  generalize M.of n = r at *
  obtain ⟨st, pid, hv, tr, fs⟩ := r
  dsimp only at hs hl hR
  subst hs
  obtain ⟨h1, hK⟩ := h.newK (.cells #[.int .i64 st, .int .i64 pid, .slice a fs.length c, .int .i64 tr] 150)
  have hc1 := h1.cellK (List.mem_cons_self ..)
  have b0 := cell_at hc1 0
  have b1 := cell_at hc1 1
  have HKI := Lib.hid (fun (W : World) (hb : Below (w.alloc (.cells #[.int .i64 st, .int .i64 pid, .slice a fs.length c, .int .i64 tr] 150)).heap.size (w.alloc (.cells #[.int .i64 st, .int .i64 pid, .slice a fs.length c, .int .i64 tr] 150)) W) => kill_in (h1.later hb) hG pid)
  have HT3 := Lib.hid (fun (Y1 : Tab) (W : World) (h3 : MgIn w0 ((w.heap.size, .cells #[.int .i64 st, .int .i64 pid, .slice a fs.length c, .int .i64 tr] 150) :: K) L0 v X Y1 M W) (ht : Y1.tb = Y.tb) (hv3 : vw X Y1 M = killV (vw X Y M) pid) => (show
      (W.cell? ⟨w.heap.size, 0, none⟩ = some (.int .i64 st) ∧ W.cell? ⟨w.heap.size, 1, none⟩ = some (.int .i64 pid) ∧ W.frozen? ⟨w.heap.size, 0, none⟩ = false ∧ W.cell? ⟨M.m, 0, none⟩ = some (.pointer (some ⟨Y.tb, 0, none⟩))) ∧
      ((W.setCell ⟨w.heap.size, 0, none⟩ (.int .i64 3)).cell? ⟨w.heap.size, 0, none⟩ = some (.int .i64 3) ∧ (W.setCell ⟨w.heap.size, 0, none⟩ (.int .i64 3)).cell? ⟨w.heap.size, 1, none⟩ = some (.int .i64 pid) ∧ (W.setCell ⟨w.heap.size, 0, none⟩ (.int .i64 3)).cell? ⟨w.heap.size, 2, none⟩ = some (.slice a fs.length c) ∧ (W.setCell ⟨w.heap.size, 0, none⟩ (.int .i64 3)).cell? ⟨w.heap.size, 3, none⟩ = some (.int .i64 tr)) ∧
      Calls Tryz.prog 68 #[.pointer (some ⟨M.m, 0, none⟩), .string (toB n), .agg #[.int .i64 3, .int .i64 pid, .slice a fs.length c, .int .i64 tr], .int .i64 2] (W.setCell ⟨w.heap.size, 0, none⟩ (.int .i64 3)) fun e w' => e = .returned (.tuple #[]) ∧ MgTo w0 K L0 v Y M (turnV (killV (vw X Y M) pid) n ⟨3, pid, tr, fs⟩ 2) w' from by
    have e1 := h3.cellK (List.mem_cons_self ..)
    have h4 := h3.turnKc hK 0 (.int .i64 3)
    have e2 := h4.cellK (List.mem_cons_self ..)
    refine ⟨⟨cell_at e1 0, cell_at e1 1, free_at e1 0, by rw [← ht]; exact h3.cells.1.1⟩, ⟨cell_at e2 0, cell_at e2 1, cell_at e2 2, cell_at e2 3⟩, ?_⟩
    exact turn_mg (K := K) (L0 := L0) (Y := Y) h4 n (r := ⟨3, pid, .slice a fs.length c, tr, fs⟩) hok 2 hlen hv3 ht (fun m hm => List.mem_cons_of_mem _ hm) (fun _ h => h)))
  have HT4 := Lib.hid (turn_mg (K := K) (L0 := L0) (Y := Y) h1 n (r := RunD.zero) (.inl ⟨rfl, rfl⟩) 3 hlen rfl rfl (fun m hm => List.mem_cons_of_mem _ hm) (fun _ h => h))
  have HT5 := Lib.hid (show MgTo w0 K L0 v Y M (vw X Y M) (w.alloc (.cells #[.int .i64 st, .int .i64 pid, .slice a fs.length c, .int .i64 tr] 150)) from h1.to.less (fun m hm => List.mem_cons_of_mem _ hm) (fun _ h => h))
  have d0 := h1.cells.1.1
  have HR := Lib.hid hR
  clear h h1 hc1 hG hg hK hok hlen hR c0 c1 c3
  generalize hfl : fs.length = fl at *
  generalize hnb : toB n = nb at *
  generalize hW1 : w.alloc (.cells #[.int .i64 st, .int .i64 pid, .slice a fl c, .int .i64 tr] 150) = w1 at *
  have HW1 := Lib.hid hW1
  clear hW1
  have key : (st = 1 ∨ st = 2) → Calls Tryz.prog 29 #[.pointer (some ⟨M.m, 0, none⟩), .string nb] w fun e w' => e = .returned (.int .i64 (stopV (vw X Y M) n).1) ∧ MgAt w0 v M.m Y.tb M.g us ord (N + 2) (stopV (vw X Y M) n).2 w' := by
    rintro (rfl | rfl)
    · have hS := And.intro d0 b1
      have hS2 : w1.drew.cell? ⟨M.m, 0, none⟩ = some (.pointer (some ⟨Y.tb, 0, none⟩)) ∧ w1.drew.cell? ⟨w.heap.size, 1, none⟩ = some (.int .i64 pid) := hS
      have HS2 := Lib.hid (show stopV (vw X Y M) n = (0, turnV (killV (vw X Y M) pid) n ⟨3, pid, tr, fs⟩ 2) from by rw [HR.out, if_pos (by decide)]; rfl)
      clear HR HT4 HT5
      go_enter Tryz.func29, Tryz.ntmps29
      go_wp2_with fail
      rw [HW1.out]
      go_region_held3 (fun W : World => W.cell? ⟨M.m, 0, none⟩ = some (.pointer (some ⟨Y.tb, 0, none⟩)) ∧ W.cell? ⟨w.heap.size, 1, none⟩ = some (.int .i64 pid)) (first | exact hS | exact hS2 | exact hS3 | exact hS4) (first | (go_at_call 11; refine (HKI.out _ ?_).mono ?_; (first | exact Below.refl _ _ | exact (Below.refl _ _).drew); rintro e w3 ⟨⟨k, rfl⟩, Y1, ht1, hv1, h3⟩; obtain ⟨⟨q0, q1, q2, q3⟩, ⟨p0, p1, p2, p3⟩, ht⟩ := HT3.out Y1 w3 h3 ht1 hv1; obtain ⟨⟨r0, r1, r2, r3⟩, ⟨s0, s1, s2, s3⟩, ht'⟩ := HT3.out Y1 w3.drew h3.drew1 ht1 hv1; have hS3 := And.intro q3 q1; have hS4 := And.intro r3 r1; have HTA := Lib.hid ht; have HTB := Lib.hid ht'; clear ht ht' h3))
      go_wp2_with (go_at_call 68; refine HTA.out.mono ?_; rintro e w4 ⟨rfl, h4⟩; have H4 := Lib.hid h4; clear h4)
      go_ret
      exact ⟨by rw [HS2.out]; rfl, HP.out _ _ (by rw [HS2.out]) H4.out⟩
    · have hS := And.intro d0 b1
      have hS2 : w1.drew.cell? ⟨M.m, 0, none⟩ = some (.pointer (some ⟨Y.tb, 0, none⟩)) ∧ w1.drew.cell? ⟨w.heap.size, 1, none⟩ = some (.int .i64 pid) := hS
      have HS2 := Lib.hid (show stopV (vw X Y M) n = (0, turnV (killV (vw X Y M) pid) n ⟨3, pid, tr, fs⟩ 2) from by rw [HR.out, if_pos (by decide)]; rfl)
      clear HR HT4 HT5
      go_enter Tryz.func29, Tryz.ntmps29
      go_wp2_with fail
      rw [HW1.out]
      go_region_held3 (fun W : World => W.cell? ⟨M.m, 0, none⟩ = some (.pointer (some ⟨Y.tb, 0, none⟩)) ∧ W.cell? ⟨w.heap.size, 1, none⟩ = some (.int .i64 pid)) (first | exact hS | exact hS2 | exact hS3 | exact hS4) (first | (go_at_call 11; refine (HKI.out _ ?_).mono ?_; (first | exact Below.refl _ _ | exact (Below.refl _ _).drew); rintro e w3 ⟨⟨k, rfl⟩, Y1, ht1, hv1, h3⟩; obtain ⟨⟨q0, q1, q2, q3⟩, ⟨p0, p1, p2, p3⟩, ht⟩ := HT3.out Y1 w3 h3 ht1 hv1; obtain ⟨⟨r0, r1, r2, r3⟩, ⟨s0, s1, s2, s3⟩, ht'⟩ := HT3.out Y1 w3.drew h3.drew1 ht1 hv1; have hS3 := And.intro q3 q1; have hS4 := And.intro r3 r1; have HTA := Lib.hid ht; have HTB := Lib.hid ht'; clear ht ht' h3))
      go_wp2_with (go_at_call 68; refine HTA.out.mono ?_; rintro e w4 ⟨rfl, h4⟩; have H4 := Lib.hid h4; clear h4)
      go_ret
      exact ⟨by rw [HS2.out]; rfl, HP.out _ _ (by rw [HS2.out]) H4.out⟩
  by_cases h1 : st = 1
  · exact key (.inl h1)
  by_cases h2 : st = 2
  · exact key (.inr h2)
  clear key HT3 HKI
  obtain rfl := HW1.out
  by_cases h4 : st = 4
  · subst h4
    have ht4 := HT4.out
    unfold RunD.val RunD.zero at ht4
    dsimp only at ht4
    have HS2 := Lib.hid (show stopV (vw X Y M) n = (0, turnV (vw X Y M) n RV.zero 3) from by rw [HR.out, if_neg (by decide), if_pos rfl])
    clear HT4 HT5 HR d0 h1 h2 b1
    go_enter Tryz.func29, Tryz.ntmps29
    go_wp2_with (go_at_call 68; refine ht4.mono ?_; rintro e w4 ⟨rfl, h4⟩; have H4 := Lib.hid h4; clear h4)
    go_ret
    exact ⟨by rw [HS2.out]; rfl, HP.out _ _ (by rw [HS2.out]; rfl) H4.out⟩
  · have g1 : (st == 1) = false := by simpa using h1
    have g2 : (st == 2) = false := by simpa using h2
    have g4 : (st == 4) = false := by simpa using h4
    have HS2 := Lib.hid (show stopV (vw X Y M) n = (20, vw X Y M) from by rw [HR.out, if_neg (by rintro (h | h); exact h1 h; exact h2 h), if_neg h4])
    clear HT4 HR d0 h1 h2 h4 b1
    go_enter Tryz.func29, Tryz.ntmps29
    go_wp2_with fail
    go_ret
    exact ⟨by rw [HS2.out]; rfl, HP.out _ _ (by rw [HS2.out]) HT5.out⟩
end
end Go.Proofs.YtnjabanjgckeoaaGreatDoor
end

/- Fail. -/
section
namespace Go.Proofs.YtnjabanjgckeoaaGreatDoor
open Go.RowKit
open Go.ChangeMaps (setBlock)
set_option linter.unusedVariables false
set_option linter.unusedSimpArgs false
set_option maxRecDepth 100000

section
variable {w0 w w' : World} {v mb tb gb N : Nat} {us : List GU} {ord : List Nm} {V : MV}
theorem MgTo.ofTb {K : Blocks} {L0 : List Rw} {Y Y1 : Tab} {M : MS} {V : MV} (h : MgTo w0 K L0 v Y1 M V w) (ht : Y1.tb = Y.tb) : MgTo w0 K L0 v Y M V w := by
  obtain ⟨K', L2, X', Y', M', h1, h2, h3, h4, h5⟩ := h
  exact ⟨K', L2, X', Y', M', h1, h2, h3, h4.trans ht, h5⟩
/-- What Fail makes of a unit for which something ran. -/
def endV (us : List GU) (V : MV) (n : Nm) (st tries : Int) : MV :=
  if st = 3 then turnV V n RV.zero 3 else if st = 1 ∧ n ∈ namesU us ∧ tries < (findU us n).ret ∧ onV V (findU us n).re = true then (issueV V n (findU us n).fi (tries + 1)).2 else turnV V n ⟨4, 0, 0, []⟩ 4
theorem failV_end (us : List GU) (V : MV) (n : Nm) (hp : (ofV V n).pid ≠ 0) : failV us V n = (0, endV us (exitV V (ofV V n).pid) n (ofV V n).state (ofV V n).tries) := by
  unfold failV endV
  rw [if_neg hp, on_exit]
  split
  · rfl
  · split <;> rfl
set_option maxHeartbeats 16000000 in
theorem fail_at (h : MgAt w0 v mb tb gb us ord N V w) (hm : Mx w0) (hN : N ≤ 9000) (hf : ShortF us) (n : Nm) (hn : n.length ≤ n.length) :
    Calls Tryz.prog 33 #[.pointer (some ⟨mb, 0, none⟩), .string (toB n)] w fun e w' => e = .returned (.int .i64 (failV us V n).1) ∧ MgAt w0 v mb tb gb us ord (N + 2) (failV us V n).2 w' := by
  obtain ⟨K, L0, X, Y, M, h, rfl, rfl, rfl, rfl, hg, hG⟩ := h
  obtain ⟨⟨c0, c1, c2, c3⟩, _⟩ := h.cells
  have hl := h.lookup n
  have hok := h.ok n
  obtain ⟨a, c, hs⟩ := h.shape n
  have hof : ofV (vw X Y M) n = (M.of n).view := of_vw X Y M n
  have htr := hG.of n
  have HP := Lib.hid (fun (V' : MV) (W : World) (hV : (failV us (vw X Y M) n).2 = V') (hW : MgTo w0 K L0 v Y M V' W) => (show MgAt w0 v M.m Y.tb M.g us ord (N + 2) (failV us (vw X Y M) n).2 W from (by rw [hV]; exact hW.at hg (hV ▸ hG.fail us n hn))))
  have hR : (M.of n).pid ≠ 0 → failV us (vw X Y M) n = (0, endV us (exitV (vw X Y M) (M.of n).pid) n (M.of n).state (M.of n).tries) := fun hp => by
    have := failV_end us (vw X Y M) n (by rw [hof]; exact hp)
    rw [hof] at this
    exact this
  have hR0 : (M.of n).pid = 0 → failV us (vw X Y M) n = (20, vw X Y M) := fun hp => by
    unfold failV
    rw [hof, if_pos (show (M.of n).view.pid = 0 from hp)]
  have hlen := evs_le hG (by omega)
  have hG1 := hG.exit (M.of n).pid
  rw [hof] at htr
  unfold RunD.val at hl
  generalize M.of n = r at *
  obtain ⟨st, pid, hv, tr, fs⟩ := r
  dsimp only at hs hl hR hR0 hG1
  have htr2 : 0 ≤ tr ∧ tr ≤ (N : Int) := htr
  subst hs
  clear hof htr
  obtain ⟨h1, hK⟩ := h.newK (.cells #[.int .i64 st, .int .i64 pid, .slice a fs.length c, .int .i64 tr] 150)
  have hc1 := h1.cellK (List.mem_cons_self ..)
  have b0 := cell_at hc1 0
  have b1 := cell_at hc1 1
  have d0 := h1.cells.1.1
  by_cases hp0 : pid = 0
  · subst hp0
    have HR := Lib.hid (hR0 rfl)
    have HT := Lib.hid (show MgTo w0 K L0 v Y M (vw X Y M) (w.alloc (.cells #[.int .i64 st, .int .i64 0, .slice a fs.length c, .int .i64 tr] 150)) from h1.to.less (fun m hm => List.mem_cons_of_mem _ hm) (fun _ h => h))
    clear h h1 hc1 hG hg hK hok hlen hR hR0 hG1 c0 c1 c3 d0 htr2 hm
    generalize hfl : fs.length = fl at *
    generalize hnb : toB n = nb at *
    go_enter Tryz.func33, Tryz.ntmps33
    go_wp2_with fail
    go_ret
    exact ⟨by rw [HR.out]; rfl, HP.out _ _ (by rw [HR.out]) HT.out⟩
  have g0 : (pid == 0) = false := by simpa using hp0
  have HR := Lib.hid (hR hp0)
  have HEX := Lib.hid (fun (W : World) (hb : Below (w.alloc (.cells #[.int .i64 st, .int .i64 pid, .slice a fs.length c, .int .i64 tr] 150)).heap.size (w.alloc (.cells #[.int .i64 st, .int .i64 pid, .slice a fs.length c, .int .i64 tr] 150)) W) => exit_in (h1.later hb) hG (by omega) pid)
  -- behind the end, at whatever world
  have HB := Lib.hid (fun (X1 : VX) (Y1 : Tab) (W : World) (h3 : MgIn w0 ((w.heap.size, .cells #[.int .i64 st, .int .i64 pid, .slice a fs.length c, .int .i64 tr] 150) :: K) L0 v X1 Y1 M W) (ht : Y1.tb = Y.tb) => (show
      (W.cell? ⟨w.heap.size, 0, none⟩ = some (.int .i64 st) ∧ W.cell? ⟨w.heap.size, 1, none⟩ = some (.int .i64 pid) ∧ W.cell? ⟨w.heap.size, 3, none⟩ = some (.int .i64 tr) ∧ W.cell? ⟨M.m, 0, none⟩ = some (.pointer (some ⟨Y.tb, 0, none⟩)) ∧ W.cell? ⟨M.m, 1, none⟩ = some (.pointer (some ⟨M.g, 0, none⟩))) ∧ GAt W M.g us ord from by
    have e1 := h3.cellK (List.mem_cons_self ..)
    exact ⟨⟨cell_at e1 0, cell_at e1 1, cell_at e1 3, by rw [← ht]; exact h3.cells.1.1, h3.cells.1.2.1⟩, (hg.mono (fun m hm => List.mem_cons_of_mem _ hm) (fun _ h => h)).atM h3⟩))
  have HM := Lib.hid hm
  have HG1 := Lib.hid hG1
  have HF := Lib.hid (hf n)
  have HL := Lib.hid hlen
  have HTR := Lib.hid htr2
  clear h h1 hc1 hG hg hK hok hlen hR hR0 hG1 c0 c1 c3 hp0 hm hf htr2
  generalize hfl : fs.length = fl at *
  generalize hW1 : w.alloc (.cells #[.int .i64 st, .int .i64 pid, .slice a fl c, .int .i64 tr] 150) = w1 at *
  have HW1 := Lib.hid hW1
  clear hW1
  have hS := And.intro d0 b1
  have hS2 : w1.drew.cell? ⟨M.m, 0, none⟩ = some (.pointer (some ⟨Y.tb, 0, none⟩)) ∧ w1.drew.cell? ⟨w.heap.size, 1, none⟩ = some (.int .i64 pid) := hS
  go_enter Tryz.func33, Tryz.ntmps33
  go_wp2_with fail
  rw [HW1.out]
  go_region_held3 (fun W : World => W.cell? ⟨M.m, 0, none⟩ = some (.pointer (some ⟨Y.tb, 0, none⟩)) ∧ W.cell? ⟨w.heap.size, 1, none⟩ = some (.int .i64 pid)) (first | exact hS | exact hS2 | exact hS3 | exact hS4) (first | (go_at_call 13; refine (HEX.out _ ?_).mono ?_; (first | exact Below.refl _ _ | exact (Below.refl _ _).drew); rintro e w3 ⟨⟨k, rfl⟩, X1, Y1, ht1, hv1, h3⟩; obtain ⟨⟨q0, q1, q2, q3, q4⟩, hg3⟩ := HB.out X1 Y1 w3 h3 ht1; have hS3 := And.intro q3 q1; have hS4 : w3.drew.cell? ⟨M.m, 0, none⟩ = some (.pointer (some ⟨Y.tb, 0, none⟩)) ∧ w3.drew.cell? ⟨w.heap.size, 1, none⟩ = some (.int .i64 pid) := hS3; have H3 := Lib.hid h3; have HT1 := Lib.hid ht1; have HV1 := Lib.hid hv1; have HG3 := Lib.hid hg3; clear h3 ht1 hv1 hg3 q0 q1 q2 q3))
  have hget := HG3.out.get2 n
  clear d0 b0 b1 c2 hl hS hS2 hS3 hS4
  go_wp2_with fail
  refine hget.mono ?_
  rintro e w4 ⟨y, _, hyr, hU, rfl, hO⟩
  have h4 := H3.out.join (S' := []) hO
  have hone := Lib.hid hU.one
  have hcs : (Tryz.prog.info? 64).map (·.size) = some y.cells.length := info_uv
  have h8 := Lib.hid (show (8 : Nat) = y.cells.length from rfl)
  have D1 := Lib.hid (show y.cells[1]? = some y.v1 from rfl)
  have D4 := Lib.hid (show y.cells[4]? = some y.v4 from rfl)
  have D7 := Lib.hid (show y.cells[7]? = some (.int .i64 (findU us n).ret) from by rw [← hyr]; rfl)
  have HI1 := Lib.hid (show (⟨0, 0, y.v1, 0, (findU us n).fi⟩ : RunD).Ok (rows6 y (findU us n) ++ L0) from .inr (List.mem_append_left _ (by simp [rows6])))
  have S4 := Lib.hid hU.s4
  have H4 := Lib.hid h4
  clear hget hyr hU hO h4 H3 HG3 q4
  generalize y.cells = cs at *
  go_upto_region 6 with (refine wpList_store_new rfl 64 (.tmp 6) (.tmp 32) rfl (Own.start w4) cs w4.heap.size rfl rfl rfl h8.out hcs hone.out ?_)
  intro w5 hO5 _
  have e1 : w5.cell? ⟨w4.heap.size, 1, none⟩ = some y.v1 := by rw [hO5.cell 1 (by rw [← h8.out]; decide)]; exact D1.out
  have e4 : w5.cell? ⟨w4.heap.size, 4, none⟩ = some y.v4 := by rw [hO5.cell 4 (by rw [← h8.out]; decide)]; exact D4.out
  have e7 : w5.cell? ⟨w4.heap.size, 7, none⟩ = some (.int .i64 (findU us n).ret) := by rw [hO5.cell 7 (by rw [← h8.out]; decide)]; exact D7.out
  have h5 := H4.out.later hO5.below
  have s4 := S4.out.later hO5.below
  have hbx := h5.cellK (List.mem_cons_self ..)
  have x0 := cell_at hbx 0
  have x3 := cell_at hbx 3
  obtain ⟨a1, k1, hv1⟩ : ∃ a c, y.v1 = .slice a (findU us n).fi.length c := HI1.out.shape h5
  obtain ⟨a4, n4, k4, hv4⟩ := s4.shape
  have hon := allOn_in h5 s4
  have hKK : ∀ m ∈ K, m ∈ ([] : Blocks) ++ ((w.heap.size, Obj.cells #[.int .i64 st, .int .i64 pid, .slice a fl c, .int .i64 tr] 150) :: K) := fun m hm => List.mem_cons_of_mem _ hm
  have hLL : ∀ r ∈ L0, r ∈ rows6 y (findU us n) ++ L0 := fun r hr => List.mem_append_right _ hr
  have HT3 := Lib.hid (fun (W : World) (hb : Below w5.heap.size w5 W) => turn_mg (K := K) (L0 := L0) (Y := Y) (h5.later hb) n (r := ⟨0, 0, .slice none 0 0, 0, []⟩) (.inl ⟨rfl, rfl⟩) 3 HL.out HV1.out HT1.out hKK hLL)
  have HT4 := Lib.hid (fun (W : World) (hb : Below w5.heap.size w5 W) => turn_mg (K := K) (L0 := L0) (Y := Y) (h5.later hb) n (r := ⟨4, 0, .slice none 0 0, 0, []⟩) (.inl ⟨rfl, rfl⟩) 4 HL.out HV1.out HT1.out hKK hLL)
  have HIS := Lib.hid (fun (W : World) (hb : Below w5.heap.size w5 W) => issue_in (h5.later hb) HM.out (HV1.out ▸ HG1.out) (by omega) n HI1.out HF.out (tr + 1))
  have HXC := Lib.hid (fun (W : World) (hb : Below w5.heap.size w5 W) => (show W.cell? ⟨w.heap.size, 0, none⟩ = some (.int .i64 st) ∧ W.cell? ⟨w.heap.size, 3, none⟩ = some (.int .i64 tr) ∧ W.cell? ⟨w4.heap.size, 1, none⟩ = some y.v1 from
    ⟨(hb.cell (p := ⟨w.heap.size, 0, none⟩) (World.block_lt_of_cell? w5 ⟨w.heap.size, 0, none⟩ x0)).trans x0, (hb.cell (p := ⟨w.heap.size, 3, none⟩) (World.block_lt_of_cell? w5 ⟨w.heap.size, 3, none⟩ x3)).trans x3, (hb.cell (p := ⟨w4.heap.size, 1, none⟩) (World.block_lt_of_cell? w5 ⟨w4.heap.size, 1, none⟩ e1)).trans e1⟩))
  have HTO := Lib.hid (fun (V' : MV) (W : World) (hW : MgTo w0 ([] ++ ((w.heap.size, Obj.cells #[.int .i64 st, .int .i64 pid, .slice a fl c, .int .i64 tr] 150) :: K)) (rows6 y (findU us n) ++ L0) v Y1 M V' W) => (show MgTo w0 K L0 v Y M V' W from (hW.less hKK hLL).ofTb HT1.out))
  unfold RunD.val at HT3 HT4
  dsimp only at HT3 HT4
  rw [HV1.out] at hon HIS
  rw [hv1] at e1 HIS HXC
  rw [hv4] at e4 hon
  clear hO5 h5 s4 S4 HI1 H4 hone h8 hcs D1 D4 D7 hbx hKK hLL hv1 hv4 HB HEX HG1 HL HM HF
  have HE := Lib.hid (show endV us (exitV (vw X Y M) pid) n st tr = if st = 3 then turnV (exitV (vw X Y M) pid) n RV.zero 3 else if st = 1 ∧ n ∈ namesU us ∧ tr < (findU us n).ret ∧ onV (exitV (vw X Y M) pid) (findU us n).re = true then (issueV (exitV (vw X Y M) pid) n (findU us n).fi (tr + 1)).2 else turnV (exitV (vw X Y M) pid) n ⟨4, 0, 0, []⟩ 4 from rfl)
  have hwr : IntKind.i64.wrap (tr + 1) = tr + 1 := IntWalk.i64_in _ (by have := HTR.out; omega)
  clear HTR
  generalize hfl1 : (findU us n).fi.length = fl1 at *
  generalize hret : (findU us n).ret = ret at *
  generalize hob : onV (exitV (vw X Y M) pid) (findU us n).re = bo at *
  have HOB := Lib.hid hob
  clear hob hret hfl1
  generalize hbd : decide (n ∈ namesU us) = b at *
  have HBD := Lib.hid hbd
  clear hbd
  cases b with
  | false =>
    by_cases h3 : st = 3
    · subst h3
      have HS := Lib.hid (show endV us (exitV (vw X Y M) pid) n 3 tr = turnV (exitV (vw X Y M) pid) n RV.zero 3 from by rw [HE.out, if_pos rfl])
      clear HE HTO
      go_wp2_with (first
        | (go_at_call 68; refine (HT3.out w5 (Below.refl _ _)).mono ?_; rintro e w7 ⟨rfl, h7⟩; have H7 := Lib.hid h7; clear h7))
      go_ret
      exact ⟨by rw [HR.out]; rfl, HP.out _ _ (by rw [HR.out]; exact HS.out) H7.out⟩
    by_cases h1 : st = 1
    · subst h1
      have HS := Lib.hid (show endV us (exitV (vw X Y M) pid) n 1 tr = turnV (exitV (vw X Y M) pid) n ⟨4, 0, 0, []⟩ 4 from by rw [HE.out, if_neg (by decide), if_neg (fun h => of_decide_eq_false HBD.out h.2.1)])
      clear HE HTO
      go_wp2_with (first
        | (go_at_call 68; refine (HT4.out w5 (Below.refl _ _)).mono ?_; rintro e w7 ⟨rfl, h7⟩; have H7 := Lib.hid h7; clear h7))
      go_ret
      exact ⟨by rw [HR.out]; rfl, HP.out _ _ (by rw [HR.out]; exact HS.out) H7.out⟩
    have HN3 := Lib.hid h3
    have HN1 := Lib.hid h1
    have g3 : (st == 3) = false := by simpa using h3
    have g1 : (st == 1) = false := by simpa using h1
    clear h3 h1
    have HS := Lib.hid (show endV us (exitV (vw X Y M) pid) n st tr = turnV (exitV (vw X Y M) pid) n ⟨4, 0, 0, []⟩ 4 from by rw [HE.out, if_neg HN3.out, if_neg (fun h => HN1.out h.1)])
    clear HE HTO
    go_wp2_with (first
      | (go_at_call 68; refine (HT4.out w5 (Below.refl _ _)).mono ?_; rintro e w7 ⟨rfl, h7⟩; have H7 := Lib.hid h7; clear h7))
    go_ret
    exact ⟨by rw [HR.out]; rfl, HP.out _ _ (by rw [HR.out]; exact HS.out) H7.out⟩
  | true =>
    by_cases hlt : tr < ret
    · have HLT := Lib.hid hlt
      cases bo with
      | true =>
        by_cases h3 : st = 3
        · subst h3
          have HS := Lib.hid (show endV us (exitV (vw X Y M) pid) n 3 tr = turnV (exitV (vw X Y M) pid) n RV.zero 3 from by rw [HE.out, if_pos rfl])
          clear HE HTO
          go_wp2_with (first
            | (go_at_call 68; refine (HT3.out w6 HB6.out).mono ?_; rintro e w7 ⟨rfl, h7⟩; have H7 := Lib.hid h7; clear h7)
            | (go_at_call 66; refine hon.mono ?_; rintro e w6 ⟨rfl, hb6⟩; obtain ⟨z0, z3, z1⟩ := HXC.out w6 hb6; have HB6 := Lib.hid hb6; clear hb6))
          go_ret
          exact ⟨by rw [HR.out]; rfl, HP.out _ _ (by rw [HR.out]; exact HS.out) H7.out⟩
        by_cases h1 : st = 1
        · subst h1
          have HS := Lib.hid (show endV us (exitV (vw X Y M) pid) n 1 tr = (issueV (exitV (vw X Y M) pid) n (findU us n).fi (tr + 1)).2 from by rw [HE.out, if_neg (by decide), if_pos ⟨rfl, of_decide_eq_true HBD.out, HLT.out, rfl⟩])
          clear HE
          go_wp2_with (first
            | (go_at_call 67; have _g := HB6.out; clear _g; refine (HIS.out w6 HB6.out).mono ?_; rintro e w7 ⟨rfl, h7⟩; have H7 := Lib.hid (HTO.out _ _ h7); clear h7)
            | (go_at_call 66; refine hon.mono ?_; rintro e w6 ⟨rfl, hb6⟩; obtain ⟨z0, z3, z1⟩ := HXC.out w6 hb6; have HB6 := Lib.hid hb6; clear hb6))
          go_ret
          exact ⟨by rw [HR.out]; rfl, HP.out _ _ (by rw [HR.out]; exact HS.out) H7.out⟩
        have HN3 := Lib.hid h3
        have HN1 := Lib.hid h1
        have g3 : (st == 3) = false := by simpa using h3
        have g1 : (st == 1) = false := by simpa using h1
        clear h3 h1
        have HS := Lib.hid (show endV us (exitV (vw X Y M) pid) n st tr = turnV (exitV (vw X Y M) pid) n ⟨4, 0, 0, []⟩ 4 from by rw [HE.out, if_neg HN3.out, if_neg (fun h => HN1.out h.1)])
        clear HE HTO
        go_wp2_with (first
          | (go_at_call 68; refine (HT4.out w6 HB6.out).mono ?_; rintro e w7 ⟨rfl, h7⟩; have H7 := Lib.hid h7; clear h7)
          | (go_at_call 66; refine hon.mono ?_; rintro e w6 ⟨rfl, hb6⟩; obtain ⟨z0, z3, z1⟩ := HXC.out w6 hb6; have HB6 := Lib.hid hb6; clear hb6))
        go_ret
        exact ⟨by rw [HR.out]; rfl, HP.out _ _ (by rw [HR.out]; exact HS.out) H7.out⟩
      | false =>
        by_cases h3 : st = 3
        · subst h3
          have HS := Lib.hid (show endV us (exitV (vw X Y M) pid) n 3 tr = turnV (exitV (vw X Y M) pid) n RV.zero 3 from by rw [HE.out, if_pos rfl])
          clear HE HTO
          go_wp2_with (first
            | (go_at_call 68; refine (HT3.out w6 HB6.out).mono ?_; rintro e w7 ⟨rfl, h7⟩; have H7 := Lib.hid h7; clear h7)
            | (go_at_call 66; refine hon.mono ?_; rintro e w6 ⟨rfl, hb6⟩; obtain ⟨z0, z3, z1⟩ := HXC.out w6 hb6; have HB6 := Lib.hid hb6; clear hb6))
          go_ret
          exact ⟨by rw [HR.out]; rfl, HP.out _ _ (by rw [HR.out]; exact HS.out) H7.out⟩
        by_cases h1 : st = 1
        · subst h1
          have HS := Lib.hid (show endV us (exitV (vw X Y M) pid) n 1 tr = turnV (exitV (vw X Y M) pid) n ⟨4, 0, 0, []⟩ 4 from by rw [HE.out, if_neg (by decide), if_neg (fun h => Bool.noConfusion h.2.2.2)])
          clear HE HTO
          go_wp2_with (first
            | (go_at_call 68; refine (HT4.out w6 HB6.out).mono ?_; rintro e w7 ⟨rfl, h7⟩; have H7 := Lib.hid h7; clear h7)
            | (go_at_call 66; refine hon.mono ?_; rintro e w6 ⟨rfl, hb6⟩; obtain ⟨z0, z3, z1⟩ := HXC.out w6 hb6; have HB6 := Lib.hid hb6; clear hb6))
          go_ret
          exact ⟨by rw [HR.out]; rfl, HP.out _ _ (by rw [HR.out]; exact HS.out) H7.out⟩
        have HN3 := Lib.hid h3
        have HN1 := Lib.hid h1
        have g3 : (st == 3) = false := by simpa using h3
        have g1 : (st == 1) = false := by simpa using h1
        clear h3 h1
        have HS := Lib.hid (show endV us (exitV (vw X Y M) pid) n st tr = turnV (exitV (vw X Y M) pid) n ⟨4, 0, 0, []⟩ 4 from by rw [HE.out, if_neg HN3.out, if_neg (fun h => HN1.out h.1)])
        clear HE HTO
        go_wp2_with (first
          | (go_at_call 68; refine (HT4.out w6 HB6.out).mono ?_; rintro e w7 ⟨rfl, h7⟩; have H7 := Lib.hid h7; clear h7)
          | (go_at_call 66; refine hon.mono ?_; rintro e w6 ⟨rfl, hb6⟩; obtain ⟨z0, z3, z1⟩ := HXC.out w6 hb6; have HB6 := Lib.hid hb6; clear hb6))
        go_ret
        exact ⟨by rw [HR.out]; rfl, HP.out _ _ (by rw [HR.out]; exact HS.out) H7.out⟩
    · have HLT := Lib.hid hlt
      by_cases h3 : st = 3
      · subst h3
        have HS := Lib.hid (show endV us (exitV (vw X Y M) pid) n 3 tr = turnV (exitV (vw X Y M) pid) n RV.zero 3 from by rw [HE.out, if_pos rfl])
        clear HE HTO
        go_wp2_with (first
          | (go_at_call 68; refine (HT3.out w5 (Below.refl _ _)).mono ?_; rintro e w7 ⟨rfl, h7⟩; have H7 := Lib.hid h7; clear h7))
        go_ret
        exact ⟨by rw [HR.out]; rfl, HP.out _ _ (by rw [HR.out]; exact HS.out) H7.out⟩
      by_cases h1 : st = 1
      · subst h1
        have HS := Lib.hid (show endV us (exitV (vw X Y M) pid) n 1 tr = turnV (exitV (vw X Y M) pid) n ⟨4, 0, 0, []⟩ 4 from by rw [HE.out, if_neg (by decide), if_neg (fun h => HLT.out h.2.2.1)])
        clear HE HTO
        go_wp2_with (first
          | (go_at_call 68; refine (HT4.out w5 (Below.refl _ _)).mono ?_; rintro e w7 ⟨rfl, h7⟩; have H7 := Lib.hid h7; clear h7))
        go_ret
        exact ⟨by rw [HR.out]; rfl, HP.out _ _ (by rw [HR.out]; exact HS.out) H7.out⟩
      have HN3 := Lib.hid h3
      have HN1 := Lib.hid h1
      have g3 : (st == 3) = false := by simpa using h3
      have g1 : (st == 1) = false := by simpa using h1
      clear h3 h1
      have HS := Lib.hid (show endV us (exitV (vw X Y M) pid) n st tr = turnV (exitV (vw X Y M) pid) n ⟨4, 0, 0, []⟩ 4 from by rw [HE.out, if_neg HN3.out, if_neg (fun h => HN1.out h.1)])
      clear HE HTO
      go_wp2_with (first
        | (go_at_call 68; refine (HT4.out w5 (Below.refl _ _)).mono ?_; rintro e w7 ⟨rfl, h7⟩; have H7 := Lib.hid h7; clear h7))
      go_ret
      exact ⟨by rw [HR.out]; rfl, HP.out _ _ (by rw [HR.out]; exact HS.out) H7.out⟩
end
end Go.Proofs.YtnjabanjgckeoaaGreatDoor
end

/- Pick, Events, List, State, Pid, Has of a manager. -/
section
namespace Go.Proofs.YtnjabanjgckeoaaGreatDoor
open Go.RowKit
open Go.ChangeMaps (setBlock)
set_option linter.unusedVariables false
set_option linter.unusedSimpArgs false
set_option maxRecDepth 100000

theorem flat_ev : ∀ (l : List (Int × Nm)) (i : Nat) (hi : i < l.length), (evC l)[i * 2]? = some (.int .i64 l[i].1) ∧ (evC l)[i * 2 + 1]? = some (.string (toB l[i].2)) := by
  intro l
  induction l with
  | nil => intro i hi; exact absurd hi (Nat.not_lt_zero _)
  | cons x r ih =>
    intro i hi
    have e : evC (x :: r) = .int .i64 x.1 :: .string (toB x.2) :: evC r := rfl
    rw [e]
    cases i with
    | zero => exact ⟨rfl, rfl⟩
    | succ i =>
      have := ih i (by simpa using hi)
      rw [show (i + 1) * 2 = i * 2 + 1 + 1 from by omega]
      exact this
section
variable {w0 w w' : World} {v mb tb gb N : Nat} {us : List GU} {ord : List Nm} {V : MV}
theorem state_at (h : MgAt w0 v mb tb gb us ord N V w) (n : Nm) : Calls Tryz.prog 39 #[.pointer (some ⟨mb, 0, none⟩), .string (toB n)] w fun e w' => e = .returned (.int .i64 (ofV V n).state) ∧ w = w' := by
  obtain ⟨K, L0, X, Y, M, h, rfl, rfl, rfl, rfl, hg, hG⟩ := h
  rw [of_vw]
  exact state_in h n
theorem pid_at (h : MgAt w0 v mb tb gb us ord N V w) (n : Nm) : Calls Tryz.prog 36 #[.pointer (some ⟨mb, 0, none⟩), .string (toB n)] w fun e w' => e = .returned (.int .i64 (ofV V n).pid) ∧ w = w' := by
  obtain ⟨K, L0, X, Y, M, h, rfl, rfl, rfl, rfl, hg, hG⟩ := h
  rw [of_vw]
  exact pid_in h n
theorem has_at (h : MgAt w0 v mb tb gb us ord N V w) (n : Nm) (hlen : (ofV V n).files.length ≤ 1000000) : Calls Tryz.prog 43 #[.pointer (some ⟨mb, 0, none⟩), .string (toB n)] w fun e w' => ∃ v', e = .returned v' ∧ Own w w' [rowSs v' (ofV V n).files] := by
  obtain ⟨K, L0, X, Y, M, h, rfl, rfl, rfl, rfl, hg, hG⟩ := h
  rw [of_vw] at hlen ⊢
  exact has_in h n hlen
theorem mgcells (h : MgAt w0 v mb tb gb us ord N V w) : w.cell? ⟨mb, 0, none⟩ = some (.pointer (some ⟨tb, 0, none⟩)) := by
  obtain ⟨K, L0, X, Y, M, h, rfl, rfl, rfl, rfl, hg, hG⟩ := h
  exact h.cells.1.1
theorem mlist_at (h : MgAt w0 v mb tb gb us ord N V w) (hN : N ≤ 10000) : Calls Tryz.prog 16 #[.pointer (some ⟨tb, 0, none⟩)] w fun e w' => ∃ a c, e = .returned (.slice a V.runs.length c) ∧ Below w.heap.size w w' := by
  obtain ⟨K, L0, X, Y, M, h, rfl, rfl, rfl, rfl, hg, hG⟩ := h
  obtain ⟨o, h1, _⟩ := h.x
  have hkeys : (Y.runs.map (·.1)).Nodup := by
    have := hG.keys
    have e : (vw X Y M).runs.map (·.1) = Y.runs.map (·.1) := by show (Y.runs.map _).map _ = _; rw [List.map_map]; rfl
    rwa [e] at this
  have hlen : (vw X Y M).runs.length = Y.runs.length := by show (Y.runs.map _).length = _; rw [List.length_map]
  have hs := hG.some_
  have hlst := hG.last.2
  refine (plist_any h1.vt hkeys (fun p hp => by
    have := (hG.each (p.1, vwP p.2) (List.mem_map.2 ⟨p, hp, rfl⟩)).1
    dsimp only at this
    omega) (by omega)).mono fun e w' hh => ?_
  obtain ⟨lv, ss, h2, h3, h4, h5⟩ := hh
  obtain ⟨a, c, h6⟩ := owned_form h4
  have hl : ss.length = Y.runs.length := by rw [h3.length_eq, List.length_map]
  exact ⟨a, c, by rw [h2, h6, hl, hlen], h5⟩
set_option maxHeartbeats 2000000 in
theorem events_at (h : MgAt w0 v mb tb gb us ord N V w) : Calls Tryz.prog 40 #[.pointer (some ⟨mb, 0, none⟩)] w fun e w' => ∃ a c, e = .returned (.slice a V.evs.length c) ∧ MgAt w0 v mb tb gb us ord N { V with evs := [] } w' ∧
    Hid (∀ W, Below w'.heap.size w' W → ∀ i (hi : i < V.evs.length), ∃ g, a = some ⟨g, 0, none⟩ ∧ W.cell? ⟨g, i * 2, none⟩ = some (.int .i64 V.evs[i].1) ∧ W.cell? ⟨g, i * 2 + 1, none⟩ = some (.string (toB V.evs[i].2))) := by
  obtain ⟨K, L0, X, Y, M, h, rfl, rfl, rfl, rfl, hg, hG⟩ := h
  obtain ⟨⟨c0, c1, c2, c3⟩, hf⟩ := h.cells
  have f3 := hf 3
  obtain ⟨a, c, hev⟩ := h.evForm
  obtain ⟨o, h1, h2⟩ := h.x
  obtain ⟨S, N1, hO, hK, _⟩ := h1.grow
  obtain ⟨S2, N2, hO2, back⟩ := h.grow
  have hin := (back w (.slice none 0 0) [] (Own.nil hO2.tail 92 2)).2
  have hE : (vw X Y M).evs = M.evs := rfl
  have hrow : Own ⟨w0, S⟩ w (⟨92, 2, .slice a M.evs.length c, M.evs.length, evC M.evs⟩ :: N1) := by
    have := hO
    unfold rowEv at this
    rw [hev] at this
    exact this
  have HC := Lib.hid (fun (W : World) (hb : Below (w.setCell ⟨M.m, 3, none⟩ (.slice none 0 0)).heap.size (w.setCell ⟨M.m, 3, none⟩ (.slice none 0 0)) W) (i : Nat) (hi : i < M.evs.length) => (show ∃ g, a = some ⟨g, 0, none⟩ ∧ W.cell? ⟨g, i * 2, none⟩ = some (.int .i64 M.evs[i].1) ∧ W.cell? ⟨g, i * 2 + 1, none⟩ = some (.string (toB M.evs[i].2)) from by
    obtain ⟨g, cap, e1, _, hgl, _⟩ := Own.form (h := hrow) (by omega)
    injection e1 with e1 _ e3
    subst e1 e3
    have hne : g ≠ M.m := fun e => by
      have := hO.offmaps _ (hK _ _ (List.mem_cons_self ..)) (rowEv M.ev M.evs) (List.mem_cons_self ..)
      rw [show (rowEv M.ev M.evs).v = M.ev from rfl, hev] at this
      exact this (by rw [e]; rfl)
    have hat := flat_ev M.evs i hi
    have q : ∀ j, j < M.evs.length * 2 → W.cell? ⟨g, j, none⟩ = (evC M.evs)[j]? := fun j hj => by
      have e5 : (w.setCell ⟨M.m, 3, none⟩ (.slice none 0 0)).cell? ⟨g, j, none⟩ = w.cell? ⟨g, j, none⟩ := by
        rw [set_at h.block]
        exact cell_setB_ne w _ hne j
      have e6 : w.cell? ⟨g, j, none⟩ = (evC M.evs)[j]? := Own.cell (h := hrow) j hj
      have hlt : (⟨g, j, none⟩ : Addr).block < (w.setCell ⟨M.m, 3, none⟩ (.slice none 0 0)).heap.size := by
        rw [set_at h.block]
        show g < (setBlock w M.m _).heap.size
        simp [setBlock]
        exact hgl
      rw [hb.cell hlt, e5, e6]
    exact ⟨g, rfl, by rw [q _ (by omega)]; exact hat.1, by rw [q _ (by omega)]; exact hat.2⟩))
  have HP := Lib.hid (show MgAt w0 v M.m Y.tb M.g us ord N { (vw X Y M) with evs := [] } (w.setCell ⟨M.m, 3, none⟩ (.slice none 0 0)) from ⟨K, L0, X, Y, _, hin, rfl, rfl, rfl, rfl, hg, { hG with evs := Nat.zero_le _ }⟩)
  rw [hE]
  rw [hev] at c3
  clear h h1 h2 hO hO2 hin hrow hG hg hK back c0 c1 c2 hf hev hE
  go_enter Tryz.func40, Tryz.ntmps40
  go_wp2_with fail
  go_ret
  exact ⟨a, ⟨c, rfl⟩, HP.out, HC⟩
end
end Go.Proofs.YtnjabanjgckeoaaGreatDoor
end

/- In: the units in some states, in order. -/
section
namespace Go.Proofs.YtnjabanjgckeoaaGreatDoor
open Go.RowKit
open Go.ChangeMaps (setBlock)
set_option linter.unusedVariables false
set_option linter.unusedSimpArgs false
set_option maxRecDepth 100000

/-- Going through units' states by the iterator at r, where what lay in w's blocks is as it was. -/
def RW (w : World) (r rb : Nat) (m : List (Nm × RunD)) (oi o : Obj) (done left : List (Nm × RunD)) (wr : World) : Prop :=
  wr.heap[r]? = some oi ∧ w.heap[rb]? = some o ∧ IterO keyN oi rb o (runsR m) (runsR left) ∧ (done ++ left).Perm m ∧ Below w.heap.size w wr ∧ w.heap.size ≤ r
theorem RW.start {w w1 : World} {rb : Nat} {m : List (Nm × RunD)} {o : Obj} (h1 : w.heap[rb]? = some o) (h2 : MapO keyN o (runsR m)) (hb : Below w.heap.size w w1) : ∃ oi, (Instr.range 87 (.map (some rb))).run Tryz.prog w1 = .ok (.pointer (some ⟨w1.heap.size, 0, none⟩)) (w1.alloc oi) ∧ RW w w1.heap.size rb m oi o [] m (w1.alloc oi) := by
  obtain ⟨oi, h3, h4⟩ := h2.range und_runs ((hb.block _ (lt_of_heap h1)).trans h1)
  exact ⟨oi, h3, (MapKept.heap_alloc w1 _).1, h1, h4, List.Perm.refl _, hb.alloc hb.size _, hb.size⟩
theorem RW.next {w wr : World} {r rb : Nat} {m : List (Nm × RunD)} {oi o : Obj} {done left : List (Nm × RunD)} (h : RW w r rb m oi o done left wr) :
    (left = [] ∧ ∀ ty, (Instr.next (.pointer (some ⟨r, 0, none⟩)) false ty).run Tryz.prog wr = .ok (.tuple #[.bool false]) wr) ∨
    ∃ (l1 l2 : List (Nm × RunD)) (p : Nm × RunD) (oi' : Obj) (w1 : World), left = l1 ++ p :: l2 ∧ (w1 = wr ∨ w1 = wr.drew) ∧ (∀ ty, (Instr.next (.pointer (some ⟨r, 0, none⟩)) false ty).run Tryz.prog wr = .ok (.tuple #[.bool true, .string (toB p.1), p.2.val]) (setBlock w1 r oi')) ∧
      RW w r rb m oi' o (done ++ [p]) (l1 ++ l2) (setBlock w1 r oi') ∧ p ∈ m ∧
      (∀ u : World, u.heap[r]? = some oi' → u.heap[rb]? = some o → (Instr.entry (.pointer (some ⟨r, 0, none⟩))).run Tryz.prog u = .ok (.tuple #[.string (toB p.1), p.2.val]) u) := by
  obtain ⟨h1, h2, h3, h4, h5, h6⟩ := h
  have hlt := lt_of_heap h2
  have h2' : wr.heap[rb]? = some o := (h5.block _ hlt).trans h2
  rcases h3.next (P := Tryz.prog) 0 h1 h2' with ⟨g1, g2⟩ | ⟨x, y, z, w1, oi', g1, g2, g3, g4, g5⟩
  · left
    have : left = [] := List.map_eq_nil_iff.1 g1
    exact ⟨this, fun ty => g2⟩
  · right
    obtain ⟨l1, p, l2, e1, e2, e3, e4⟩ := map_split _ left x y z g1
    have hb1 : Below w.heap.size w w1 := by rcases g2 with rfl | rfl; exact h5; exact h5.drew
    have hlt1 : r < w1.heap.size := by rcases g2 with rfl | rfl <;> exact lt_of_heap h1
    obtain ⟨s1, s2, s3⟩ := setBlock_heap w1 r oi' hlt1
    refine ⟨l1, l2, p, oi', w1, e1, g2, fun ty => by rw [show (Instr.next (.pointer (some ⟨r, 0, none⟩)) false ty) = (Instr.next (.pointer (some ⟨r, 0, none⟩)) false 0) from rfl, g3, ← e3], ⟨s1, h2, by rw [show runsR (l1 ++ l2) = x ++ z by rw [← e2, ← e4]; simp [runsR]]; exact g4, ?_, below_setG hb1 h6 _, h6⟩, ?_, fun u hu hu2 => by rw [g5 u hu hu2, ← e3]⟩
    · refine List.Perm.trans ?_ h4
      rw [e1]
      simp only [List.append_assoc, List.singleton_append]
      exact (List.perm_middle.symm).append_left done
    · exact h4.subset (by rw [e1]; simp)
theorem RW.entry {w wr : World} {r rb : Nat} {m : List (Nm × RunD)} {oi o : Obj} {done left : List (Nm × RunD)} (h : RW w r rb m oi o done left wr) : wr.heap[r]? = some oi ∧ wr.heap[rb]? = some o := ⟨h.1, (h.2.2.2.2.1.block _ (lt_of_heap h.2.1)).trans h.2.1⟩
theorem RW.left_eq {w wr : World} {r rb : Nat} {m : List (Nm × RunD)} {oi o : Obj} {done left : List (Nm × RunD)} (h : RW w r rb m oi o done left wr) : leftG wr rb r = left.length := by
  obtain ⟨e1, e2⟩ := h.entry
  obtain ⟨es, clock, since, seen, c0, rfl, rfl, _, _, _, _, _, _, h7⟩ := h.2.2.1
  have := congrArg List.length h7
  simp only [leftG, e1, e2]
  simpa [runsR] using this
/-- Numbers in memory. -/
def IntsAt (w : World) (v : Value) (zs : List Int) : Prop := ∃ b o c, v = .slice (some ⟨b, o, none⟩) zs.length c ∧ zs.length ≤ 1000000 ∧ ∀ j, j < zs.length → w.cell? ⟨b, o + j, none⟩ = some (.int .i64 (zs.getD j 0))
theorem IntsAt.later {w w' : World} {v : Value} {zs : List Int} (h : IntsAt w v zs) (hb : Below w.heap.size w w') : IntsAt w' v zs := by
  obtain ⟨b, o, c, e, hl, hc⟩ := h
  exact ⟨b, o, c, e, hl, fun j hj => (hb.cell (p := ⟨b, o + j, none⟩) (World.block_lt_of_cell? w _ (hc j hj))).trans (hc j hj)⟩
theorem IntsAt.contains {w : World} {v : Value} {zs : List Int} (h : IntsAt w v zs) (x : Int) : Calls Tryz.prog 81 #[v, .int .i64 x] w fun e w' => e = .returned (.bool (zs.contains x)) ∧ w' = w := by
  obtain ⟨b, o, c, rfl, hl, hc⟩ := h
  have := Tryz.slices_Contains_int b o zs.length c zs x w (Nat.le_refl _) (by omega) hc
  rw [List.take_length] at this
  exact this
/-- The names of those in some states. -/
def selI (zs : List Int) (l : List (Nm × RunD)) : List Nm := (l.filter fun p => zs.contains p.2.state).map (·.1)
theorem selI_snoc (zs : List Int) (l : List (Nm × RunD)) (p : Nm × RunD) : selI zs (l ++ [p]) = selI zs l ++ if zs.contains p.2.state then [p.1] else [] := by
  unfold selI
  rw [List.filter_append, List.map_append]
  congr 1
  cases h : zs.contains p.2.state with
  | true => rw [List.filter_cons, h]; rfl
  | false => rw [List.filter_cons, h]; rfl
def inV (V : MV) (zs : List Int) : List Nm := (V.mr.filter fun p => zs.contains p.2.state).map (·.1)
theorem selI_in (X : VX) (Y : Tab) (M : MS) (zs : List Int) : selI zs M.runs = inV (vw X Y M) zs := by
  unfold selI inV
  show _ = ((M.runs.map fun p => (p.1, p.2.view)).filter _).map (·.1)
  rw [List.filter_map, List.map_map]
  rfl
def InRel (w : World) (rb : Nat) (m : List (Nm × RunD)) (zs : List Int) (r : Nat) (s : Value) (wr : World) : Prop :=
  ∃ oi o done left, RW w r rb m oi o done left wr ∧ Own ⟨w, [(r, oi)]⟩ wr [rowSs s (selI zs done)]
set_option maxHeartbeats 8000000 in
theorem in_in {w0 w : World} {K : Blocks} {L0 : List Rw} {v : Nat} {X : VX} {Y : Tab} {M : MS} (h : MgIn w0 K L0 v X Y M w) (hlen : M.runs.length ≤ 10000) {sv : Value} {zs : List Int} (hz : IntsAt w sv zs) :
    Calls Tryz.prog 44 #[.pointer (some ⟨M.m, 0, none⟩), sv] w fun e w' => ∃ v', e = .returned v' ∧ Own w w' [rowSs v' (sortN (selI zs M.runs))] := by
  obtain ⟨i0, hi, hz0, hz1, hz2⟩ := infoS_ex
  obtain ⟨⟨c0, c1, c2, c3⟩, _⟩ := h.cells
  obtain ⟨o, h1, h2⟩ := h.x
  have hrb := h1.cellK (List.mem_cons_of_mem _ (List.mem_cons_self ..))
  obtain ⟨oi, hrun, hW⟩ := RW.start hrb h2 (Below.refl _ w)
  have HSH := Lib.hid (fun (p : Nm × RunD) (hp : p ∈ M.runs) => (show ∃ a c, p.2.hv = .slice a p.2.files.length c from (h.has p hp).shape h))
  have HW := Lib.hid (show InRel w M.rb M.runs zs w.heap.size (.slice none 0 0) (w.alloc oi) from ⟨oi, o, [], M.runs, hW, ((Own.start w).newB oi).nil 9 1⟩)
  have HZ := Lib.hid hz
  have HN := Lib.hid hlen
  obtain ⟨sb, so, sc, hsv, _, _⟩ := hz
  subst hsv
  generalize hzn : zs.length = zn at *
  clear h h1 h2 hW hlen c0 c1 c3
  have HRB := Lib.hid hrb
  clear hrb
  generalize M.runs = m at *
  generalize M.rb = rb at *
  go_enter Tryz.func44, Tryz.ntmps44
  go_wp2_with fail
  generalize hrr : w.heap.size = r at *
  have HRR := Lib.hid hrr
  clear hrr hrun
  go_loopw [5] (fun s wr => InRel w rb m zs r s wr) (fun _ wr => leftG wr rb r)
  case atStart => exact HW.out
  case round =>
    obtain ⟨oi2, o2, done, left, hW, hO⟩ := hrel
    have hle := hW.left_eq
    have hperm := hW.2.2.2.1
    have hdone : (selI zs done).length ≤ 10000 := by
      have h1 := hperm.length_eq
      have h3 := HN.out
      rw [List.length_append] at h1
      have h4 := List.length_filter_le (fun p : Nm × RunD => zs.contains p.2.state) done
      unfold selI
      rw [List.length_map]
      omega
    rcases hW.next with ⟨rfl, hnx⟩ | ⟨l1, l2, p, oi', w2', rfl, hw1, hnx, hW', hp, hen⟩
    · have hO2 : Own ⟨w, []⟩ wr [rowSs u5 (selI zs done)] := hO.forget (S' := []) (fun m hm => by cases hm)
      have hs := sortS_row hO2 (by omega)
      have hper : sortN (selI zs done) = sortN (selI zs m) := by
        rw [List.append_nil] at hperm
        exact sortN_eq ((hperm.filter _).map _)
      rw [hper] at hs
      obtain ⟨fa, fc, hf, _, _⟩ := Own.sized (h := (show Own ⟨w, []⟩ wr (⟨9, 1, u5, (selI zs done).length, strs (selI zs done)⟩ :: []) from hO2))
      clear hW hle hperm hO hO2 hdone hper
      subst hf
      go_wp2_with (go_at_call 82; refine hs.mono ?_; rintro e w3 ⟨rfl, hO3⟩; have HO3 := Lib.hid hO3; clear hO3)
      go_ret
      exact ⟨_, rfl, HO3.out⟩
    · have hO1 : Own ⟨w, [(r, oi2)]⟩ w2' [rowSs u5 (selI zs done)] := by rcases hw1 with rfl | rfl; exact hO; exact hO.drew
      have hO2 : Own ⟨w, [(r, oi')]⟩ (setBlock w2' r oi') [rowSs u5 (selI zs done)] := by
        have := hO1.setB (List.mem_cons_self ..) oi'
        simpa [upd] using this
      obtain ⟨e1, e2⟩ := hW'.entry
      have hent := hen _ e1 e2
      have hmeas : (l1 ++ l2).length < leftG wr rb r := by rw [hle]; simp
      have hsn := selI_snoc zs done p
      obtain ⟨pa, pc, hps⟩ := HSH.out p hp
      obtain ⟨pn, pst, ppid, phv, ptr, pfs⟩ := p
      dsimp only at hps hsn hnx hent
      subst hps
      generalize hw2 : setBlock w2' r oi' = w2 at *
      obtain ⟨fa, fc, hf, _, _⟩ := Own.sized (h := (show Own ⟨w, [(r, oi')]⟩ w2 (⟨9, 1, u5, (selI zs done).length, strs (selI zs done)⟩ :: []) from hO2))
      have hf' : u5 = .slice fa (selI zs done).length fc := hf
      clear hf
      subst hf'
      have HWn := Lib.hid hW'
      have HO2 := Lib.hid hO2
      have HM := Lib.hid hmeas
      have Hsn := Lib.hid hsn
      unfold RunD.val at hent hnx
      dsimp only at hent hnx
      generalize hpf : pfs.length = pl at *
      have hO3 := HO2.out.alloc (.cells #[.int .i64 pst, .int .i64 ppid, .slice pa pl pc, .int .i64 ptr] 150)
      have hB3 : Below w.heap.size w (w2.alloc (.cells #[.int .i64 pst, .int .i64 ppid, .slice pa pl pc, .int .i64 ptr] 150)) := hO3.below
      have k1 := (HZ.out.later hB3).contains pst
      have hb0 := cell_at (MapKept.heap_alloc w2 (.cells #[.int .i64 pst, .int .i64 ppid, .slice pa pl pc, .int .i64 ptr] 150)).1 0
      have HRW := Lib.hid (fun (W : World) (v4 : Value) (ns : List Nm) (hO4 : Own ⟨w, [(r, oi')]⟩ W [rowSs v4 ns]) (hns : ns = selI zs (done ++ [(pn, ⟨pst, ppid, .slice pa pl pc, ptr, pfs⟩)])) => (show InRel w rb m zs r v4 W ∧ leftG W rb r < leftG wr rb r from by
        have hW4 : RW w r rb m oi' o2 (done ++ [(pn, ⟨pst, ppid, .slice pa pl pc, ptr, pfs⟩)]) (l1 ++ l2) W := ⟨hO4.at (List.mem_cons_self ..), HWn.out.2.1, HWn.out.2.2.1, HWn.out.2.2.2.1, hO4.below, HWn.out.2.2.2.2.2⟩
        exact ⟨⟨oi', o2, _, _, hW4, by rw [← hns]; exact hO4⟩, by rw [hW4.left_eq]; exact HM.out⟩))
      have HO3 := Lib.hid hO3
      have Hll := Lib.hid hdone
      clear hW hle hperm hO hO1 hO2 hW' e1 e2 hmeas hsn hdone hO3 hB3 hw1 hw2 hpf
      generalize hls : selI zs done = ls at *
      have Hls := Lib.hid hls
      clear hls
      generalize hpb : toB pn = pb at *
      have Hpb := Lib.hid hpb
      clear hpb
      cases hct : zs.contains pst with
      | true =>
        rw [hct] at k1
        have HYES := Lib.hid (fun (v4 : Value) (W : World) (hO4 : Own ⟨w, [(r, oi')]⟩ W (⟨9, 1, v4, ls.length + 1, strs ls ++ [.string pb]⟩ :: [])) => HRW.out W v4 (ls ++ [pn]) (by
          show Own _ W (⟨9, 1, v4, (ls ++ [pn]).length, strs (ls ++ [pn])⟩ :: [])
          rw [List.length_append, show strs (ls ++ [pn]) = strs ls ++ [.string pb] from by rw [← Hpb.out]; simp [strs]]
          exact hO4) (by rw [Hsn.out, hct]; rfl))
        have HO4 := Lib.hid (show Own ⟨w, [(r, oi')]⟩ ((w2.alloc (.cells #[.int .i64 pst, .int .i64 ppid, .slice pa pl pc, .int .i64 ptr] 150)).alloc (.cells #[.string pb] 9)) (⟨9, 1, .slice fa ls.length fc, ls.length, strs ls⟩ :: []) from HO3.out.alloc _)
        have Hsrc := Lib.hid (show Src ((w2.alloc (.cells #[.int .i64 pst, .int .i64 ppid, .slice pa pl pc, .int .i64 ptr] 150)).alloc (.cells #[.string pb] 9)) (.slice (some ⟨w2.heap.size + 1, 0, none⟩) 1 1) 1 [.string pb] from by
          have h9 := src_one (w2.alloc (.cells #[.int .i64 pst, .int .i64 ppid, .slice pa pl pc, .int .i64 ptr] 150)) (.string pb) 9 rfl
          rwa [show (w2.alloc (.cells #[.int .i64 pst, .int .i64 ppid, .slice pa pl pc, .int .i64 ptr] 150)).heap.size = w2.heap.size + 1 from by simp] at h9)
        have Hb1 := Lib.hid (show ls.length + 1 ≤ maxLen from by have := Hll.out; unfold maxLen; omega)
        have Hb2 := Lib.hid (show (ls.length + 1) * 16 ≤ 140737488355328 from by have := Hll.out; omega)
        clear hct
        go_wp2_with (first
          | (at_builtin; refine wpList_append_src rfl (.tmp 22) (.tmp 24) 29 rfl (.slice fa ls.length fc) ls.length (strs ls) (.slice (some ⟨w2.heap.size + 1, 0, none⟩) 1 1) 1 [.string pb] rfl rfl HO4.out i0 (.string ⟨#[]⟩) 16 Tryz.underlying29 hi hz0 hz1 hz2 rfl (by decide) Hsrc.out (by simp) Hb1.out Hb2.out ?_)
          | (go_at_call 81; refine k1.mono ?_; rintro e w9 ⟨rfl, rfl⟩))
        intro v4 w4 hO4
        have HR := Lib.hid (HYES.out v4 w4 hO4)
        obtain ⟨a4, c4, hv4, _, _⟩ := Own.sized (h := hO4)
        subst hv4
        clear hO4
        go_wp2_with fail
        go_roundw
        case rel => exact HR.out.1
        case measure => exact HR.out.2
      | false =>
        rw [hct] at k1
        have HR := Lib.hid (HRW.out _ _ ls HO3.out (by rw [Hsn.out, hct]; simp))
        clear hct
        go_wp2_with (go_at_call 81; refine k1.mono ?_; rintro e w9 ⟨rfl, rfl⟩)
        go_roundw
        case rel => exact HR.out.1
        case measure => exact HR.out.2
end Go.Proofs.YtnjabanjgckeoaaGreatDoor
end

/- Pick of a manager. -/
section
namespace Go.Proofs.YtnjabanjgckeoaaGreatDoor
open Go.RowKit
open Go.ChangeMaps (setBlock)
set_option linter.unusedVariables false
set_option linter.unusedSimpArgs false
set_option maxRecDepth 100000

section
variable {w0 w w' : World} {v mb tb gb N : Nat} {us : List GU} {ord : List Nm} {V : MV}
theorem toB_back (b : ByteArray) : toB b.data.toList = b := by
  apply ByteArray.ext
  show b.data.toList.toArray = b.data
  simp
set_option maxHeartbeats 4000000 in
theorem mpick_at (h : MgAt w0 v mb tb gb us ord N V w) (hN : N ≤ 9000) (pid : Int) (hu : ∀ p ∈ V.runs, p.2.1.size ≤ 1000000) :
    Calls Tryz.prog 35 #[.pointer (some ⟨mb, 0, none⟩), .int .i64 pid] w fun e w' => e = .returned (.int .i64 (pickV V pid).1) ∧ MgAt w0 v mb tb gb us ord (N + 2) (pickV V pid).2 w' := by
  obtain ⟨K, L0, X, Y, M, h, rfl, rfl, rfl, rfl, hg, hG⟩ := h
  obtain ⟨⟨c0, c1, c2, c3⟩, _⟩ := h.cells
  have HP := Lib.hid (fun (V' : MV) (W : World) (hV : (pickV (vw X Y M) pid).2 = V') (hW : MgTo w0 K L0 v Y M V' W) => (show MgAt w0 v M.m Y.tb M.g us ord (N + 2) (pickV (vw X Y M) pid).2 W from (by rw [hV]; exact hW.at hg (hV ▸ hG.pick pid hu))))
  have hlen := evs_le hG (by omega)
  have hkeys : (Y.runs.map (·.1)).Nodup := by
    have := hG.keys
    have e : (vw X Y M).runs.map (·.1) = Y.runs.map (·.1) := by show (Y.runs.map _).map _ = _; rw [List.map_map]; rfl
    rwa [e] at this
  cases hlk : look Y.runs pid with
  | none =>
    have hR : pickV (vw X Y M) pid = (8, vw X Y M) := pick_none (by rw [runs_vw, hlk]; rfl)
    have hget := h.call (α := Unit) (P := fun _ e => e = .returned (.tuple #[.agg zQ.toArray, .bool false])) (X' := fun _ => X) (Y' := fun _ => Y) (fun _ => rfl) fun K' hV => (get_no hV pid hlk).mono fun e w' hh => ⟨(), hh⟩
    have HR := Lib.hid hR
    have HB := Lib.hid (fun (W : World) (hW : MgIn w0 K L0 v X Y M W) => (show Calls Tryz.prog 12 #[.pointer (some ⟨Y.tb, 0, none⟩), .int .i64 pid] W fun e w' => e = .returned (.tuple #[.bool false, .int .i64 8]) ∧ MgTo w0 K L0 v Y M (vw X Y M) w' from
      (hW.call (α := Unit) (P := fun _ e => e = .returned (.tuple #[.bool false, .int .i64 8])) (X' := fun _ => X) (Y' := fun _ => Y) (fun _ => rfl) fun K' hV => (pick_no hV pid hlk).mono fun e w' hh => ⟨(), hh⟩).mono fun e w' hh => by
        obtain ⟨_, h1, h2⟩ := hh
        exact ⟨h1, h2.to⟩))
    unfold zQ at hget
    clear h hG hg hlk hkeys hlen hR c1 c2 c3
    go_enter Tryz.func35, Tryz.ntmps35
    go_wp2_with fail
    refine hget.mono ?_
    rintro e w1 ⟨_, rfl, h1⟩
    have h2 := h1.later ((Below.refl _ w1).alloc (Nat.le_refl _) (.cells #[.int .i64 0, .string ⟨#[]⟩, .slice none 0 0, .bool false] 101))
    have d0 := h2.cells.1.1
    have hpk := HB.out _ h2
    clear hget h1 h2 c0
    go_wp2_with fail
    refine hpk.mono ?_
    rintro e w3 ⟨rfl, h3⟩
    have H3 := Lib.hid h3
    clear hpk h3
    go_wp2_with fail
    go_ret
    exact ⟨by rw [HR.out]; rfl, HP.out _ _ (by rw [HR.out]) H3.out⟩
  | some p =>
    have hml : p.maps.length ≤ 8 := (hG.each (pid, vwP p) (List.mem_map.2 ⟨_, look_mem hlk, rfl⟩)).2
    have hget : Calls Tryz.prog 46 #[.pointer (some ⟨Y.tb, 0, none⟩), .int .i64 pid] w fun e w' => ∃ a c, e = .returned (.tuple #[.agg #[.int .i64 pid, .string p.u, .slice a p.maps.length c, .bool p.ends], .bool true]) ∧ Below w.heap.size w w' := by
      obtain ⟨o, hx, _⟩ := h.x
      refine (get_yes hx.vt pid hlk (by omega)).mono fun e w' hh => ?_
      obtain ⟨mv, h1, _, h3⟩ := hh
      obtain ⟨a, c, h4, _⟩ := Own.sized (h := (show Own w w' (⟨3, 1, mv, p.maps.length, p.maps.map (Value.int .i64)⟩ :: []) from h3))
      exact ⟨a, c, by rw [h1, h4], h3.below⟩
    have H := Lib.hid h
    cases hen : p.ends with
    | false =>
      have hR : pickV (vw X Y M) pid = (0, vw X Y M) := by
        unfold pickV
        rw [runs_vw, hlk]
        show (if p.ends = true then _ else _) = _
        rw [hen, if_neg (by decide)]
      have HR := Lib.hid hR
      have HB := Lib.hid (fun (W : World) (hW : MgIn w0 K L0 v X Y M W) => (show Calls Tryz.prog 12 #[.pointer (some ⟨Y.tb, 0, none⟩), .int .i64 pid] W fun e w' => e = .returned (.tuple #[.bool false, .int .i64 0]) ∧ MgTo w0 K L0 v Y M (vw X Y M) w' from
        (hW.call (α := Unit) (P := fun _ e => e = .returned (.tuple #[.bool false, .int .i64 0])) (X' := fun _ => X) (Y' := fun _ => Y) (fun _ => rfl) fun K' hV => (pick_on hV pid hlk hen).mono fun e w' hh => ⟨(), hh⟩).mono fun e w' hh => by
          obtain ⟨_, h1, h2⟩ := hh
          exact ⟨h1, h2.to⟩))
      rw [hen] at hget
      clear h hG hg hkeys hlen hR c1 c2 c3 hml hen hlk
      generalize p.u = u at *
      generalize p.maps.length = pl at *
      go_enter Tryz.func35, Tryz.ntmps35
      go_wp2_with fail
      refine hget.mono ?_
      rintro e w1 ⟨a, c, rfl, hb1⟩
      have h2 := (H.out.later hb1).later ((Below.refl _ w1).alloc (Nat.le_refl _) (.cells #[.int .i64 pid, .string u, .slice a pl c, .bool false] 101))
      have d0 := h2.cells.1.1
      have hpk := HB.out _ h2
      clear hget h2 c0 hb1
      go_wp2_with fail
      refine hpk.mono ?_
      rintro e w3 ⟨rfl, h3⟩
      have H3 := Lib.hid h3
      clear hpk h3
      go_wp2_with fail
      go_ret
      exact ⟨by rw [HR.out]; rfl, HP.out _ _ (by rw [HR.out]) H3.out⟩
    | true =>
      have hR : pickV (vw X Y M) pid = (0, turnV (exitV (vw X Y M) pid) p.u.data.toList RV.zero 3) := by
        unfold pickV
        rw [runs_vw, hlk]
        show (if p.ends = true then _ else _) = _
        rw [hen, if_pos rfl]
        rfl
      have hv : exitV (vw X Y M) pid = vw (letAll X p.maps) { Y with runs := del Y.runs pid } M := by
        unfold exitV
        rw [runs_vw, hlk]
        have hq := LikeX.letAll (show LikeX X (vw X Y M).x from ⟨rfl, rfl⟩) p.maps
        show ({ (vw X Y M) with E := (letAll (vw X Y M).x p.maps).E, held := (letAll (vw X Y M).x p.maps).held, runs := del (vw X Y M).runs pid } : MV) = _
        rw [← hq.1, ← hq.2]
        unfold vw
        dsimp only
        rw [delV_map vwP]
      have HR := Lib.hid hR
      have HB := Lib.hid (fun (b : Nat) (x : Obj) (W : World) (hW : MgIn w0 ((b, x) :: K) L0 v X Y M W) => (show Calls Tryz.prog 12 #[.pointer (some ⟨Y.tb, 0, none⟩), .int .i64 pid] W fun e w' => e = .returned (.tuple #[.bool true, .int .i64 0]) ∧ MgIn w0 ((b, x) :: K) L0 v (letAll X p.maps) { Y with runs := del Y.runs pid } M w' from
        (hW.call (α := Unit) (P := fun _ e => e = .returned (.tuple #[.bool true, .int .i64 0])) (X' := fun _ => letAll X p.maps) (Y' := fun _ => { Y with runs := del Y.runs pid }) (fun _ => rfl) fun K' hV => (pick_end hV hkeys (N := 8 * N) (hG.held.like ⟨rfl, rfl⟩) (by omega) pid hlk (by omega) hen).mono fun e w' hh => ⟨(), hh⟩).mono fun e w' hh => by
          obtain ⟨_, h1, h2⟩ := hh
          exact ⟨h1, h2⟩))
      have HT := Lib.hid (fun (b : Nat) (x : Obj) (W : World) (hW : MgIn w0 ((b, x) :: K) L0 v (letAll X p.maps) { Y with runs := del Y.runs pid } M W) => (show Calls Tryz.prog 68 #[.pointer (some ⟨M.m, 0, none⟩), .string p.u, .agg #[.int .i64 0, .int .i64 0, .slice none 0 0, .int .i64 0], .int .i64 3] W fun e w' => e = .returned (.tuple #[]) ∧ MgTo w0 K L0 v Y M (turnV (exitV (vw X Y M) pid) p.u.data.toList RV.zero 3) w' from by
        have := turn_mg (K := K) (L0 := L0) (Y := Y) hW p.u.data.toList (r := RunD.zero) (.inl ⟨rfl, rfl⟩) 3 hlen hv.symm rfl (fun m hm => List.mem_cons_of_mem _ hm) (fun _ h => h)
        rw [toB_back] at this
        exact this))
      rw [hen] at hget
      clear h hG hg hkeys hlen hR c1 c2 c3 hml hen hlk hv
      generalize p.u = u at *
      generalize p.maps.length = pl at *
      go_enter Tryz.func35, Tryz.ntmps35
      go_wp2_with fail
      refine hget.mono ?_
      rintro e w1 ⟨a, c, rfl, hb1⟩
      have h2 := ((H.out.later hb1).newK (.cells #[.int .i64 pid, .string u, .slice a pl c, .bool true] 101)).1
      have d0 := h2.cells.1.1
      have hpk := HB.out _ _ _ h2
      clear hget h2 c0 hb1
      go_wp2_with fail
      refine hpk.mono ?_
      rintro e w3 ⟨rfl, h3⟩
      have x1 := cell_at (h3.cellK (List.mem_cons_self ..)) 1
      have ht := HT.out _ _ _ h3
      clear hpk h3 d0
      go_wp2_with fail
      refine ht.mono ?_
      rintro e w4 ⟨rfl, h4⟩
      have H4 := Lib.hid h4
      clear ht h4
      go_wp2_with fail
      go_ret
      exact ⟨by rw [HR.out]; rfl, HP.out _ _ (by rw [HR.out]) H4.out⟩
end
end Go.Proofs.YtnjabanjgckeoaaGreatDoor
end

/- Law 16's example, plain. -/
section
namespace Go.Proofs.YtnjabanjgckeoaaGreatDoor
open Go.RowKit
set_option linter.unusedVariables false
set_option linter.unusedSimpArgs false
set_option maxRecDepth 100000

def pMa : Nm := [47, 98, 105, 110, 47, 97]
def pMb : Nm := [47, 98, 105, 110, 47, 98]
def uA : GU := ⟨[97], [pMa], [], [], [[98]], [], [], 0⟩
def uB : GU := ⟨[98], [pMb], [], [], [], [], [], 1⟩
def usM : List GU := [uA, uB]
theorem errM : errU usM = 0 := by decide
def VM2 : MV := ⟨EM, [(4, 1)], 1, [(1, (toB [98], [4], false))], [([98], ⟨1, 1, 0, [pMb]⟩)], [(0, [98])]⟩
def VM3 : MV := ⟨EM, [(4, 1)], 2, [(2, (toB [98], [4], false))], [([98], ⟨1, 2, 1, [pMb]⟩)], [(0, [98]), (0, [98])]⟩
def VM4 : MV := ⟨EM, [(4, 1)], 2, [(2, (toB [98], [4], false))], [([98], ⟨2, 2, 1, [pMb]⟩)], [(0, [98]), (0, [98]), (1, [98])]⟩
def VM5 : MV := ⟨EM, [(4, 1), (3, 1)], 3, [(2, (toB [98], [4], false)), (3, (toB [97], [3], false))], [([98], ⟨2, 2, 1, [pMb]⟩), ([97], ⟨1, 3, 0, [pMa]⟩)], [(0, [98]), (0, [98]), (1, [98]), (0, [97])]⟩
def VM6 : MV := ⟨EM, [(4, 1), (3, 1)], 3, [(2, (toB [98], [4], true)), (3, (toB [97], [3], false))], [([98], ⟨3, 2, 1, [pMb]⟩), ([97], ⟨1, 3, 0, [pMa]⟩)], [(0, [98]), (0, [98]), (1, [98]), (0, [97]), (2, [98])]⟩
def VM7 : MV := ⟨EM, [(3, 1)], 3, [(3, (toB [97], [3], false))], [([97], ⟨1, 3, 0, [pMa]⟩)], [(0, [98]), (0, [98]), (1, [98]), (0, [97]), (2, [98]), (3, [98])]⟩
theorem vm1 : startV usM VM [97] = (16, VM) := by rfl
theorem vm2 : startV usM VM [98] = (0, VM2) := by rfl
theorem vm3 : failV usM VM2 [98] = (0, VM3) := by rfl
theorem vm4 : readyV VM3 [98] = (0, VM4) := by rfl
theorem vm5 : startV usM VM4 [97] = (0, VM5) := by rfl
theorem vm6 : stopV VM5 [98] = (0, VM6) := by rfl
theorem vmp : (ofV VM6 [98]).pid = 2 := by rfl
theorem vm7 : pickV VM6 2 = (0, VM7) := by rfl
end Go.Proofs.YtnjabanjgckeoaaGreatDoor
end
